"""Whether summaries are alike (points 82 and 83)."""

import random

from formroads.differing import difference
from formroads.errors import NotJoined
from formroads.joining import joined, road_summary, still, way_summary
from formroads.rules import Rules
from formroads.schemas import Schema
from formroads.stops import label_difference
from formroads.summaries import Summary
from formroads.ways import Way
from tests.kindsamples import ALL_RECORDS, CHAIN
from tests.roadsamples import (
    SMALL, forms_of, sample_schema, sampled, some_road, some_schema, some_targets, way_into,
)
from tests.samples import Case, all_shapes, plain_outline
from tests.test_stops import BITS


def back_to(way_end, shape, label):
    """A way that takes all cuts out and puts those of the shape in."""
    steps = [("unnest", 0)] * (len(way_end.shape) - 1)
    for level in range(len(shape) - 1):
        steps.append(("nest", level, tuple(sorted(sum(shape[level + 1:], ())))))
    return Way("back", label, way_end, Schema(way_end.book, shape, way_end.kinds, Rules()), steps)


class SmallRoadsTest(Case):
    def check_pair(self, first, second, forms):
        form = difference(first, second)
        if form is not None:
            self.assertNotEqual(first(form), second(form))
            self.assertTrue(first.start.fits(form))
            self.assertIn(len(plain_outline(form)), (1, 2))
            return 1
        for other in forms:
            if first.start.fits(other):
                self.assertEqual(first(other), second(other), other)
        return 0

    def pairs(self, chance, records, count, number):
        """Pairs of summaries with one start schema and one end shape by chance."""
        for _ in range(number):
            start = some_schema(chance, records, count, ruled=True)
            shape = chance.choice(all_shapes(count))
            pair = []
            for label in ("last", chance.choice(["last", "other"])):
                ways = some_road(chance, records, start, chance.randint(1, 3))
                if ways[-1].end.shape != shape:
                    ways.append(back_to(ways[-1].end, shape, label))
                pair.append(road_summary(ways))
            yield pair

    def test_by_chance(self):
        for number, (records, count) in enumerate(
            ((SMALL, 1), (SMALL, 2), (BITS, 2), (BITS, 3), (CHAIN, 1), (CHAIN, 2), (BITS, 2)),
        ):
            chance = random.Random(number)
            for first, second in self.pairs(chance, records, count, 30):
                forms = forms_of(records, first.start, 2 if count < 3 else 1)
                self.check_pair(first, second, forms)

    def test_roads_that_are_nearly_alike(self):
        """One label for all, so that only what the forms become tells the roads apart."""
        told = []
        for number, (records, count) in enumerate(((SMALL, 2), (BITS, 2), (BITS, 3), (CHAIN, 2), (SMALL, 2))):
            chance = random.Random(20 + number)
            for first, second in self.pairs(chance, records, count, 120):
                first, second = self.with_one_label(first), self.with_one_label(second)
                if label_difference(first, second) is None:
                    forms = sampled(chance, forms_of(records, first.start, 2), 1500)
                    told.append(self.check_pair(first, second, forms))
        self.assertGreater(told.count(0), 20)
        self.assertGreater(told.count(1), 20)

    def with_one_label(self, summary):
        labels = ["red" for _ in summary.labels]
        return Summary(
            summary.start, summary.end, summary.passages, labels, summary.hollow, summary.depths, summary.compares)

    def test_other_depths_and_entries(self):
        """Summaries of one road whose cuts are changed a little."""
        for number, records in enumerate((SMALL, BITS, CHAIN)):
            chance = random.Random(number)
            for _ in range(40):
                start = some_schema(chance, records, 2, ruled=True)
                deep = [shape for shape in all_shapes(2) if len(shape) == 2]
                ways = some_road(chance, records, start, 2)
                ways.append(back_to(ways[-1].end, chance.choice(deep), "last"))
                others = some_road(chance, records, start, 1)
                others.append(back_to(others[-1].end, ways[-1].end.shape, "last"))
                self.check_pair(
                    self.with_one_label(road_summary(ways)), self.with_one_label(road_summary(others)),
                    forms_of(records, start, 2))

    def test_roads_with_the_same_borders(self):
        """Roads that stop the same values, so that often only some depths are left, and differ by their steps."""
        told = []
        for number, (records, count) in enumerate(((SMALL, 2), (SMALL, 3), (BITS, 3), (CHAIN, 2))):
            chance = random.Random(60 + number)
            for _ in range(60):
                start = some_schema(chance, records, count)
                start = start.with_rules(Rules(range(chance.randint(0, start.last)), chance.choice(([], [0], [1]))[:start.last]))
                kinds = [start.kinds]
                for _ in range(3):
                    kinds.append(some_targets(chance, records, kinds[-1]))
                pair = [self.along(chance, start, kinds[1:], None)]
                pair.append(self.along(chance, start, kinds[1:], pair[0].end.shape))
                forms = sampled(chance, forms_of(records, start, 2 if count < 3 else 1), 1000)
                told.append(self.check_pair(*pair, forms + [form + form for form in forms[:100]]))
        self.assertGreater(told.count(0), 20)
        self.assertGreater(told.count(1), 20)

    def along(self, chance, start, kinds, shape):
        ways = []
        for targets in kinds:
            ways.append(way_into(chance, ways[-1].end if ways else start, targets))
        if shape not in (None, ways[-1].end.shape):
            ways.append(back_to(ways[-1].end, shape, "last"))
        return self.with_one_label(road_summary(ways))

    def test_three_leaves(self):
        chance = random.Random(83)
        for first, second in self.pairs(chance, BITS, 2, 60):
            if difference(first, second) is None:
                self.check_pair(first, second, forms_of(BITS, first.start, 3))


class DifferenceTest(Case):
    def setUp(self):
        self.deep = sample_schema(((0,), (1,)), ("day", "?"))
        self.flat = sample_schema(((0, 1),), ("day", "?"))

    def test_roads_that_differ_by_label_alone(self):
        for label, alike in (("red", True), ("blue", False)):
            first = way_summary(Way("a", "red", self.deep, self.flat, [("unnest", 0)]))
            second = way_summary(Way("b", label, self.deep, self.flat, [("unnest", 0)]))
            self.assertEqual(difference(first, second) is None, alike)
        # If no hollow leaf can arrive, the labels do not matter.
        full = self.deep.with_rules(Rules((0,)))
        first = way_summary(Way("a", "red", full, self.flat, [("unnest", 0)]))
        second = way_summary(Way("b", "blue", full, self.flat, [("unnest", 0)]))
        self.assertIsNone(difference(first, second))

    def again(self, rules):
        """The cut stays, or it is taken out and put in again."""
        start = self.deep.with_rules(rules)
        stays = Way("a", "red", start, self.deep)
        again = Way("b", "red", start, self.deep, [("unnest", 0), ("nest", 0, (1,))])
        return difference(way_summary(stays), way_summary(again))

    def test_roads_that_differ_by_branches_alone(self):
        form = self.again(Rules((0,)))
        self.assertEqual([branch for branch, _ in plain_outline(form)], [0, 0])
        self.assertIsNone(self.again(Rules((0,), (0,))))
        self.assertIsNotNone(self.again(Rules((0,), (1,))))
        # With hollow leaves the roads differ by what they stop.
        self.assertIsNotNone(self.again(Rules((), (0,))))

    def test_roads_that_differ_by_values_alone(self):
        month = Way("a", "red", self.deep, self.deep.with_kinds(("month", "?")))
        day = Way("b", "red", self.deep, self.deep.with_kinds(("day", "?")))
        self.assertIsNotNone(difference(way_summary(month), way_summary(day)))
        # Kinds and rules of the ends do not matter.
        open_end = Way("b", "red", self.deep, self.deep.with_kinds(("?", "?")).with_rules(Rules((0,), (1,))))
        self.assertIsNone(difference(way_summary(day), way_summary(open_end)))

    def test_values_of_the_last_level_that_differ(self):
        # Hollow leaves pass alike; only the last of the depths shows the difference.
        first = way_summary(Way("a", "red", self.deep, self.deep.with_kinds(("day", "?"))))
        for kinds in (("day", "size"), ("day", "month"), ("day", "day")):
            told = self.deep.with_kinds(("day", kinds[1]))
            second = way_summary(Way("a", "red", told, self.deep.with_kinds(("day", "?"))))
            self.assertIsNone(difference(second, still(told)))
        day = self.deep.with_kinds(("day", "day"))
        second = way_summary(Way("a", "red", day, self.deep.with_kinds(("day", "month"))))
        form = difference(still(day), second)
        self.assertTrue(day.fits(form))
        self.assertNotEqual(second(form), ("through", form))
        self.assertEqual(len(form[0][1]), 1)
        self.assertIsNone(difference(first, still(self.deep)))

    def hollow_pair(self, rules, kinds, steps):
        """Roads on which nothing but hollow leaves of depth 1 can pass, the second one with other kinds or steps."""
        start = sample_schema(((0,), (1,), (2,)), ("day", "size", "day"), rules)
        middle = start.with_rules(Rules()).with_kinds(("day", "size", "?"))
        first = [Way("a", "red", start, middle), Way("b", "red", middle, middle.with_kinds(("day", "size", "size")))]
        second = first[:1] + [Way("b", "red", middle, middle.with_kinds((*kinds, "size")), steps)]
        return road_summary(first), road_summary(second)

    def test_hollow_leaves_alone(self):
        again = [("unnest", 0), ("nest", 0, (1,))]
        for rules, kinds, steps, alike in (
            (Rules((0,)), ("day", "size"), [], True), (Rules((0,)), ("month", "size"), [], False),
            (Rules((0,)), ("day", "size"), again, False), (Rules((0,), (0,)), ("day", "size"), again, True),
            (Rules((0,), (1, 2)), ("day", "size"), again, False), (Rules((0, 1)), ("month", "size"), again, True),
            (Rules((0, 1)), ("day", "?"), [], True),
        ):
            first, second = self.hollow_pair(rules, kinds, steps)
            form = difference(first, second)
            self.assertEqual(form is None, alike)
            if form is not None:
                self.assertTrue(first.start.fits(form))
                self.assertEqual({len(path) for _, path in plain_outline(form)}, {2})
                self.assertNotEqual(first(form), second(form))

    def nested_pair(self, last):
        """Roads that nest by day and by month; the last column ends with the given kind."""
        start = sample_schema(((0,), (1, 2)), ("day", "day", "day"))
        deep = sample_schema(((0,), (1,), (2,)), ("day", "month", last))
        nest = [("nest", 1, (2,))]
        by_day = sample_schema(((0,), (1,), (2,)), ("day", "day", "?"))
        by_month = start.with_kinds(("day", "month", "?"))
        first = road_summary([Way("a", "red", start, by_day, nest), Way("b", "red", by_day, deep)])
        second = road_summary([Way("a", "red", start, by_month), Way("b", "red", by_month, deep, nest)])
        return first, second

    def test_columns_below_the_leaves_that_pass(self):
        # Where no value of the last column passes, what becomes of the column beside it does not matter.
        first, second = self.nested_pair("size")
        self.assertIsNone(difference(first, second))
        start = first.start
        month = way_summary(Way("a", "red", start, start.with_kinds(("day", "month", "?"))))
        ends = [sample_schema(start.shape, kinds) for kinds in (("day", "month", "size"), ("day", "day", "size"))]
        day = way_summary(Way("a", "red", start, start.with_kinds(("day", "day", "?"))))
        pair = [joined(month, way_summary(Way("b", "red", month.end, ends[0])))]
        pair.append(joined(day, way_summary(Way("b", "red", day.end, ends[1]))))
        self.assertIsNone(difference(*pair))

    def test_branches_of_the_last_level_that_differ(self):
        first, second = self.nested_pair("month")
        form = difference(first, second)
        self.assertTrue(first.start.fits(form))
        self.assertNotEqual(first(form), second(form))

    def test_columns_with_other_kinds(self):
        # Each column keeps its own kind in the form that is returned.
        kinds = ("size", "day", "month", "day")
        start = sample_schema(((0,), (1,), (2,), (3,)), kinds, Rules((0, 1, 2), (0, 2)))
        stays = way_summary(Way("a", "red", start, start.with_rules(Rules())))
        again = way_summary(Way("a", "red", start, start.with_rules(Rules()), [("unnest", 1), ("nest", 1, (2,))]))
        form = difference(stays, again)
        self.assertTrue(start.fits(form))
        self.assertNotEqual(stays(form), again(form))
        for number, targets in enumerate((
            ("?", "day", "month", "month"), ("?", "month", "month", "day"), ("?", "month", "?", "month"),
        )):
            way = way_summary(Way("a", "red", start, start.with_rules(Rules()).with_kinds(targets)))
            form = difference(stays, way)
            self.assertTrue(start.fits(form), number)
            self.assertNotEqual(stays(form), way(form))

    def test_entries_that_differ(self):
        # Rows are put together by month or by day.
        flat = sample_schema(((0, 1),), ("day", "?"))
        deep = sample_schema(((0,), (1,)), ("day", "?"))
        told_flat, told_deep = flat.with_kinds(("month", "?")), deep.with_kinds(("month", "?"))
        nest = [("nest", 0, (1,))]
        early = road_summary([Way("a", "red", flat, told_flat), Way("b", "red", told_flat, told_deep, nest)])
        late = road_summary([Way("a", "red", flat, deep, nest), Way("b", "red", deep, told_deep)])
        form = difference(early, late)
        self.assertEqual([path[0][0][0] for _, path in plain_outline(form)], ["day", "day"])
        self.assertNotEqual(form[0][0][0], form[1][0][0])
        self.assertNotEqual(early(form), late(form))

    def test_roads_that_let_nothing_pass(self):
        kinds = [sample_schema(((0,),), (kind,)) for kind in ("day", "?", "size", "?")]
        first = road_summary([Way("w", label, a, b) for label, a, b in zip("aba", kinds, kinds[1:])])
        second = joined(first, way_summary(Way("w", "b", kinds[3], kinds[1].with_kinds(("month",)))))
        self.assertIsNone(difference(first, second))

    def test_still(self):
        for number, records in enumerate(ALL_RECORDS):
            chance = random.Random(number)
            schema = some_schema(chance, records, 3, ruled=True)
            self.assertIsNone(difference(still(schema), still(schema)))
            way = Way("stay", "red", schema, schema)
            self.assertIsNone(difference(still(schema), way_summary(way)))

    def test_not_joined(self):
        first = still(self.deep)
        out = way_summary(Way("a", "red", self.deep, self.flat, [("unnest", 0)]))
        for second in (out, still(self.flat), still(self.deep.with_rules(Rules((0,)))),
                       still(self.deep.with_kinds(("?", "?"))), still(sample_schema(((1,), (0,)), ("day", "?")))):
            self.raises_unchanged(NotJoined, difference, first, second)
            self.raises_unchanged(NotJoined, difference, second, first)

    def test_freshness(self):
        first = still(self.deep)
        for kinds in (("month", "?"), ("?", "?"), ("day", "size")):
            second = way_summary(Way("a", "red", self.deep, self.deep.with_kinds(kinds)))
            self.unchanging(difference, first, second)
