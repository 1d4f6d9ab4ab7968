"""Ways (points 66 and 67)."""

import random

from formroads.errors import Clash, InvalidName, InvalidStep, NotJoined, Stopped
from formroads.rules import Rules
from formroads.ways import Way
from tests.kindsamples import ALL_RECORDS
from tests.roadsamples import forms_of, plain_send, sample_schema, sampled, some_schema, some_way
from tests.samples import Case

START = sample_schema(((0, 1),), ("day", "?"))
END = sample_schema(((0,), (1,)), ("month", "size"))
STEPS = [("nest", 0, (1,))]
DAYS = [("day", number) for number in range(3)]


class SendTest(Case):
    def test_the_example(self):
        way = Way("sort", "red", START, END, STEPS)
        form = [((DAYS[0], ("size", 1)), []), ((DAYS[1], ("size", 0)), []), ((DAYS[2], ("size", 0)), [])]
        self.assertEqual(way.send(form), [
            ((("month", 0),), [((("size", 1),), []), ((("size", 0),), [])]),
            ((("month", 1),), [((("size", 0),), [])])])
        error = self.raises(Stopped, way.send, [((DAYS[0], ("month", 1)), [])])
        self.assertEqual(error.label, "red")

    def test_the_border_comes_before_the_steps(self):
        # The two days lead to one month, so the rows behind the border are put together.
        end = sample_schema(((0,), (1,)), ("month", "?"))
        form = [((DAYS[0], DAYS[0]), []), ((DAYS[1], DAYS[1]), [])]
        self.assertEqual(Way("go", "red", START, end, STEPS).send(form), [
            ((("month", 0),), [((DAYS[0],), []), ((DAYS[1],), [])])])

    def test_by_chance(self):
        for number, records in enumerate(ALL_RECORDS):
            chance = random.Random(number)
            for _ in range(60):
                start = some_schema(chance, records, chance.randint(1, 3), ruled=True)
                way = some_way(chance, records, start, 3)
                for form in sampled(chance, forms_of(records, start, 1), 20) + self.two_leaves(chance, records, start):
                    self.check_form(records, way, form)

    def two_leaves(self, chance, records, start):
        if sum(map(len, start.shape)) == 3:
            return []
        return sampled(chance, forms_of(records, start, 2), 20)

    def check_form(self, records, way, form):
        behind = plain_send(records, way, form)
        if behind is None:
            self.assertEqual(self.raises(Stopped, way.send, form).label, way.label)
        else:
            self.assertEqual(way.send(form), behind)

    def test_a_way_without_steps(self):
        told = sample_schema(((0, 1),), ("month", "?"))
        form = [((DAYS[0], DAYS[1]), []), ((DAYS[0], DAYS[1]), [])]
        for way in (Way("go", "red", START, told), Way("go", "red", START, told, []), Way("go", "red", START, told, ())):
            self.assertEqual(way.steps, ())
            self.assertEqual(way.send(form), [((("month", 0), DAYS[1]), []), ((("month", 0), DAYS[1]), [])])
            self.assertEqual(way.send([]), [])

    def test_hollow_leaves(self):
        deep = sample_schema(((0,), (1,)), ("day", "?"))
        flat = sample_schema(((0, 1),), ("day", "?"))
        form = [((DAYS[0],), [])]
        self.assertEqual(Way("go", "red", deep, deep).send(form), form)
        self.assertEqual(self.raises(Stopped, Way("go", "red", deep, flat, [("unnest", 0)]).send, form).label, "red")
        # A cut that is taken out and put in again.
        again = Way("go", "blue", deep, deep, [("unnest", 0), ("nest", 0, (1,))])
        self.assertEqual(self.raises(Stopped, again.send, form).label, "blue")

    def test_rules_are_not_used(self):
        ruled = START.with_rules(Rules((), (0,)))
        end = END.with_rules(Rules((0,), (0, 1)))
        form = [((DAYS[0], ("size", 1)), []), ((DAYS[0], ("size", 1)), [])]
        self.assertEqual(Way("go", "red", ruled, end, STEPS).send(form), [
            ((("month", 0),), [((("size", 1),), []), ((("size", 1),), [])])])


class MakingTest(Case):
    def test_attributes(self):
        steps = list(STEPS)
        way = Way("sort", "red", START, END, steps)
        steps.clear()
        self.assertEqual((way.name, way.label, way.steps), ("sort", "red", (("nest", 0, (1,)),)))
        self.assertTrue(way.start.same(START) and way.end.same(END))

    def test_errors(self):
        flat = sample_schema(((0, 1),), ("day", "size"))
        beside = sample_schema(((0,), (1,)), ("size", "size"))
        three = sample_schema(((0, 1, 2),), ("day", "?", "size"))
        bad_step, other_step = [("nest", 1, (0,))], [("nest", 0, (0,))]
        for arguments, error in (
            (("", "red", START, END, STEPS), InvalidName), (("Sort", "red", START, END, STEPS), InvalidName),
            (("sort", "re d", START, END, STEPS), InvalidName), (("sort", "toolonger", START, END, STEPS), InvalidName),
            (("sort", "red", START, three, []), NotJoined), (("sort", "red", three, END, []), NotJoined),
            (("sort", "red", START, beside, STEPS), Clash),
            (("sort", "red", END, START, [("unnest", 0)]), Clash),
            (("sort", "red", START, END, bad_step), InvalidStep),
            (("sort", "red", START, END, STEPS + [("unnest", 1)]), InvalidStep),
            (("sort", "red", START, END, [("turn", 0)]), InvalidStep),
            (("sort", "red", START, END, other_step), NotJoined), (("sort", "red", START, END), NotJoined),
            (("sort", "red", START, flat, STEPS), NotJoined),
            # Of several faults the one that is named first.
            (("sort", "", START, three, bad_step), InvalidName), (("", "red", START, beside, other_step), InvalidName),
            (("", "red", START, END, bad_step), InvalidName),
            (("sort", "red", START, sample_schema(((0, 1, 2),), ("size",) * 3), bad_step), NotJoined),
            (("sort", "red", START, beside, bad_step), Clash), (("sort", "red", START, beside, other_step), Clash),
            (("sort", "red", START, END, other_step + bad_step + [("nest", 0, (1,))]), InvalidStep),
        ):
            self.raises_unchanged(error, Way, *arguments)


class FreshnessTest(Case):
    def test_answers_and_arguments(self):
        way = Way("sort", "red", START, END, STEPS)
        form = [((DAYS[0], ("size", 1)), []), ((DAYS[1], ("size", 0)), []), ((DAYS[2], ("size", 0)), [])]
        self.unchanging(way.send, form)
        self.unchanging(Way, "sort", "red", START, END, list(STEPS))
        self.raises_unchanged(Stopped, way.send, form + [((DAYS[0], DAYS[0]), [])])
        deep = sample_schema(((0,), (1,)), ("day", "?"))
        self.unchanging(Way("go", "red", deep, deep).send, [((DAYS[0],), [((DAYS[1],), [])])])
