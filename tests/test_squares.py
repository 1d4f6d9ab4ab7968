"""Whether a step and a border may be exchanged (point 86)."""

import random

from formroads.errors import Clash, InvalidSchema, InvalidStep, UnknownName
from formroads.rules import Rules
from formroads.squares import square
from tests.kindsamples import ALL_RECORDS, kinds_of, plain_allowed, plain_cross
from tests.roadsamples import SMALL, forms_of, sample_schema, sampled, some_schema, some_targets
from tests.samples import Case, all_steps, plain_script, plain_shape
from tests.test_stops import BITS

ONES = [("one", 1, None, ()), ("two", 2, None, ()), ("low", 2, "one", (0, 0))]


def sides(records, schema, step, targets, form):
    """The outcomes of both sides for the form: a label or the result."""
    after = plain_shape(schema.shape, step)
    first = plain_script(form, schema.shape, [step])
    if first is None:
        first = "step"
    else:
        first = plain_cross(records, first, after, targets)
        first = "border" if first is None else first
    second = plain_cross(records, form, schema.shape, targets)
    if second is None:
        second = "border"
    else:
        second = plain_script(second, schema.shape, [step])
        second = "step" if second is None else second
    return first, second


class SmallSchemasTest(Case):
    def check_square(self, records, schema, step, targets, forms):
        differ = False
        for form in forms:
            if schema.fits(form):
                first, second = sides(records, schema, step, targets, form)
                differ = differ or first != second
        word = {"nest": "merged", "unnest": "empty"}[step[0]] if differ else "alike"
        self.assertEqual(square(schema, step, targets), word)
        return word

    def test_by_chance(self):
        words = []
        for number, (records, count) in enumerate(((SMALL, 2), (BITS, 3), (ONES, 2), (ALL_RECORDS[1], 2), (ONES, 2))):
            chance = random.Random(number)
            for _ in range(40):
                schema = some_schema(chance, records, count, ruled=True)
                targets = some_targets(chance, records, schema.kinds)
                forms = forms_of(records, schema, 2)
                for step in all_steps(schema.shape):
                    words.append(self.check_square(records, schema, step, targets, forms))
        for word in ("alike", "merged", "empty"):
            self.assertGreater(words.count(word), 10)

    def test_three_levels(self):
        chance = random.Random(3)
        words = []
        for _ in range(25):
            kinds = [chance.choice(["one", "one", "?", "low"]) for _ in range(3)]
            rules = Rules(chance.choice(([], [0], [1])), chance.choice(([0, 1], [0, 1, 2], [0])))
            schema = sample_schema(((0,), (1,), (2,)), ("day",) * 3).__class__(
                some_schema(chance, ONES, 1).book, ((0,), (1,), (2,)), kinds, rules)
            targets = tuple(some_targets(chance, ONES, schema.kinds))
            forms = forms_of(ONES, schema, 1) + sampled(chance, forms_of(ONES, schema, 2), 3000)
            for step in all_steps(schema.shape):
                told = square(schema, step, targets)
                words.append(told)
                differ = [
                    form for form in forms
                    if schema.fits(form) and len(set(map(repr, sides(ONES, schema, step, targets, form)))) > 1]
                if told == "alike":
                    self.assertEqual(differ, [])
        self.assertIn("empty", words)

    def test_all_targets_of_one_column_beside_another(self):
        for kinds in (("one", "low"), ("?", "one"), ("two", "low")):
            schema = some_schema(random.Random(1), ONES, 1)
            for rules in (Rules(), Rules((0,)), Rules((), (0,)), Rules((), (0, 1)), Rules((0,), (0,))):
                deep = schema.__class__(schema.book, ((1,), (0,)), kinds, rules)
                forms = forms_of(ONES, deep, 2)
                for first in kinds_of(ONES):
                    for second in kinds_of(ONES):
                        allowed = [plain_allowed(ONES, kind, target) for kind, target in zip(kinds, (first, second))]
                        if all(allowed):
                            self.check_square(ONES, deep, ("unnest", 0), (first, second), forms)


class SquareTest(Case):
    def test_nest(self):
        schema = sample_schema(((0, 1), (2,)), ("day", "day", "day"))
        self.assertEqual(square(schema, ("nest", 0, (1,)), ("month", "day", "day")), "merged")
        self.assertEqual(square(schema, ("nest", 0, (0,)), ("month", "day", "day")), "alike")
        self.assertEqual(square(schema, ("nest", 0, (1,)), ("day", "month", "month")), "alike")
        self.assertEqual(square(schema, ("nest", 0, (1,)), ("?", "month", "month")), "alike")
        # Rules make no difference.
        ruled = schema.with_rules(Rules((0,), (0, 1)))
        self.assertEqual(square(ruled, ("nest", 0, (1,)), ["month", "day", "day"]), "merged")

    def test_members_that_stop_are_not_led_together(self):
        schema = sample_schema(((0, 1),), ("?", "?"))
        self.assertEqual(square(schema, ("nest", 0, (1,)), ("size", "?")), "alike")
        self.assertEqual(square(schema, ("nest", 0, (1,)), ("day", "?")), "alike")
        self.assertEqual(square(schema, ("nest", 0, (1,)), ("month", "?")), "merged")

    def test_unnest(self):
        schema = sample_schema(((0,), (1,)), ("?", "?"))
        for targets, word in ((("?", "?"), "alike"), (("day", "?"), "empty"), (("?", "size"), "empty")):
            self.assertEqual(square(schema, ("unnest", 0), targets), word)
            self.assertEqual(square(schema.with_rules(Rules((), (0, 1))), ("unnest", 0), targets), word)
            self.assertEqual(square(schema.with_rules(Rules((0,))), ("unnest", 0), targets), "alike")

    def test_tables_of_one_row(self):
        # The book has a kind of one number, so a parted table of this kind has one row.
        one = some_schema(random.Random(1), ONES, 1)
        for kinds, parted, word in (
            (("one", "one", "?"), (0, 1), "alike"), (("one", "one", "?"), (0,), "empty"),
            (("one", "one", "?"), (1,), "empty"), (("one", "one", "?"), (0, 1, 2), "alike"),
            (("two", "one", "?"), (0, 1), "empty"), (("one", "low", "?"), (0, 1), "empty"),
            (("one", "?", "?"), (0, 1), "empty"),
        ):
            schema = one.__class__(one.book, ((0,), (1,), (2,)), kinds, Rules((), parted))
            self.assertEqual(square(schema, ("unnest", 1), (*kinds[:2], "one")), word)
            full = schema.with_rules(Rules((0,), parted))
            self.assertEqual(square(full, ("unnest", 1), (*kinds[:2], "one")), word)
            self.assertEqual(square(full, ("unnest", 0), (*kinds[:2], "one")), "alike")

    def test_errors(self):
        schema = sample_schema(((0, 1), (2,)), ("day", "?", "size"))
        good = ("month", "?", "size")
        for step in (("nest", 0, ()), ("nest", 0, (0, 1)), ("nest", 0, (2,)), ("nest", 2, (0,)), ("unnest", 1),
                     ("unnest", -1), ("turn", 0), ("nest", 0, (1, 0))):
            self.raises_unchanged(InvalidStep, square, schema, step, good)
            # Before anything else.
            self.raises(InvalidStep, square, schema, step, ("year",))
        for targets in (("month", "?"), (), ("month", "?", "size", "?"), ["year"], ("size", "?")):
            self.raises_unchanged(InvalidSchema, square, schema, ("unnest", 0), targets)
        for targets in (("year", "?", "size"), ("size", "?", "year"), ("month", "", "day")):
            self.raises_unchanged(UnknownName, square, schema, ("nest", 0, (1,)), targets)
        for targets in (("size", "?", "size"), ("month", "?", "day"), ["month", "?", "month"]):
            self.raises_unchanged(Clash, square, schema, ("unnest", 0), targets)

    def test_freshness(self):
        schema = sample_schema(((0, 1), (2,)), ("day", "?", "size"))
        self.unchanging(square, schema, ("nest", 0, (1,)), ["month", "?", "size"])
        self.unchanging(square, schema, ("unnest", 0), ["month", "day", "?"])
