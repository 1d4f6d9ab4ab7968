"""Where summaries stop forms (points 78 to 81)."""

import itertools
import random

from formroads.errors import NotJoined
from formroads.joining import road_summary, still, way_summary
from formroads.kinds import Kindbook
from formroads.rules import Rules
from formroads.schemas import Schema
from formroads.stops import label_difference, passing, ranked_form
from formroads.ways import Way
from tests.kindsamples import ALL_RECORDS, CHAIN
from tests.roadsamples import (
    SMALL, forms_of, sample_schema, schema_over, some_road, some_schema,
)
from tests.samples import Case, all_rules, plain_outline

BITS = [("bit", 2, None, ())]
DAYS = [("day", number) for number in range(3)]


def with_start(ways, rules):
    """The same road from a start schema with these rules."""
    first = ways[0]
    start = first.start.with_rules(rules)
    return [Way(first.name, first.label, start, first.end, first.steps)] + ways[1:]


def label_of(summary, form):
    outcome, told = summary(form)
    return told if outcome == "stopped" else None


def label_pairs(chance, records, count, most_ways, number):
    """Pairs of summaries of roads with one start schema by chance."""
    for _ in range(number):
        start = some_schema(chance, records, count, ruled=True)
        yield tuple(
            road_summary(some_road(chance, records, start, chance.randint(1, most_ways))) for _ in range(2))


class PassingTest(Case):
    def check_passing(self, records, summaries, rules):
        values, depths = passing(summaries, rules)
        start = summaries[0].start
        for column, kind in enumerate(start.kinds):
            members = start.book.members(kind)
            late = [value for value in members if all(summary.rank(column, value) == 0 for summary in summaries)]
            self.assertEqual(values[column], tuple(late))
        found = set()
        for form in forms_of(records, start, 1):
            if form and all(summary.form_rank(form) == 0 for summary in summaries):
                depth = len(plain_outline(form)[0][1]) - 1
                if depth == start.last or ("full", depth) not in rules.named():
                    found.add(depth)
        self.assertEqual(depths, tuple(sorted(found)))
        self.assertIsInstance(values, tuple)

    def test_by_chance(self):
        for number, records in enumerate(ALL_RECORDS + [SMALL, BITS]):
            chance = random.Random(number)
            for first, second in label_pairs(chance, records, chance.randint(1, 3), 4, 25):
                rules = chance.choice(list(all_rules(first.start.shape)))
                self.check_passing(records, [first], rules)
                self.check_passing(records, [first, second], rules)
                self.check_passing(records, (second, first), Rules())

    def test_by_hand(self):
        start = sample_schema(((0,), (1,)), ("?", "?"), Rules((0,)))
        summary = way_summary(Way("go", "red", start, start.with_rules(Rules()).with_kinds(("month", "size"))))
        months = (("month", 0), ("month", 1), *DAYS)
        sizes = (("size", 0), ("size", 1))
        self.assertEqual(passing([summary], Rules()), ((months, sizes), (0, 1)))
        self.assertEqual(passing([summary], Rules((0,))), ((months, sizes), (1,)))
        self.assertEqual(passing([summary], Rules((1,), (0, 1))), ((months, sizes), (0, 1)))
        self.assertEqual(passing([still(start)], start.rules)[1], (1,))
        joins = way_summary(Way("go", "red", start, sample_schema(((0, 1),), ("?", "?")), [("unnest", 0)]))
        self.assertEqual(passing([summary, joins], Rules()), ((months, sizes), (1,)))

    def test_no_member_passes(self):
        kinds = [sample_schema(((0,), (1,)), (kind, "?")) for kind in ("day", "?", "size")]
        summary = road_summary([Way("a", "a", kinds[0], kinds[1]), Way("b", "b", kinds[1], kinds[2])])
        self.assertEqual(passing([summary], Rules())[0][0], ())
        self.assertEqual(passing([summary], Rules())[1], ())
        # A column below: then hollow leaves may pass.
        kinds = [sample_schema(((1,), (0,)), (kind, "?")) for kind in ("day", "?", "size")]
        summary = road_summary([Way("a", "a", kinds[0], kinds[1]), Way("b", "b", kinds[1], kinds[2])])
        self.assertEqual(passing([summary], Rules())[1], (0,))
        self.assertEqual(passing([summary], Rules((0,)))[1], ())


class RankedFormTest(Case):
    def check_ranks(self, records, summary, forms):
        ranks = {summary.form_rank(form) for form in forms if form and summary.start.fits(form)}
        for rank in range(len(summary.labels) + 1):
            form = ranked_form(summary, rank)
            self.assertEqual(form is not None, rank in ranks, rank)
            if form is not None:
                self.assertEqual(summary.form_rank(form), rank)
                self.assertTrue(summary.start.fits(form))
                self.assertEqual(len(plain_outline(form)), 1)

    def test_by_chance(self):
        for number, records in enumerate(ALL_RECORDS + [SMALL, BITS]):
            chance = random.Random(number)
            for _ in range(30):
                start = some_schema(chance, records, chance.randint(1, 3), ruled=True)
                summary = road_summary(some_road(chance, records, start, chance.randint(1, 5)))
                self.check_ranks(records, summary, forms_of(records, start, 1))

    def test_two_leaves(self):
        chance = random.Random(2)
        for _ in range(40):
            start = some_schema(chance, SMALL, 2, ruled=True)
            summary = road_summary(some_road(chance, SMALL, start, chance.randint(1, 5)))
            self.check_ranks(SMALL, summary, forms_of(SMALL, start, 2))

    def test_a_rank_that_a_full_rule_makes_impossible(self):
        for rules, possible in ((Rules(), True), (Rules((0,)), False), (Rules((), (0, 1)), True)):
            start = sample_schema(((0,), (1,)), ("day", "day"), rules)
            summary = way_summary(Way("go", "red", start, sample_schema(((0, 1),), ("day", "day")), [("unnest", 0)]))
            self.assertEqual(summary.labels, ("red",))
            self.assertEqual(ranked_form(summary, 1) is not None, possible)
            self.assertIsNotNone(ranked_form(summary, 0))

    def test_a_rank_behind_another_one(self):
        # All members of the second column stop at the first rank, so the second rank needs a hollow leaf.
        kinds = [sample_schema(((0,), (1,)), pair) for pair in (
            ("?", "day"), ("?", "?"), ("?", "size"), ("day", "size"))]
        ways = [Way("way", label, first, second) for label, first, second in zip("abc", kinds, kinds[1:])]
        summary = road_summary(ways)
        self.assertEqual(summary.labels, ("b", "c"))
        self.assertEqual([len(form[0][1]) for form in (ranked_form(summary, 1), ranked_form(summary, 2))], [1, 0])
        start = kinds[0].with_rules(Rules((0,)))
        full = road_summary([Way("way", "a", start, kinds[1])] + ways[1:])
        self.assertIsNone(ranked_form(full, 2))
        self.assertIsNone(ranked_form(full, 0))


class LabelDifferenceTest(Case):
    def check_pair(self, first, second, forms):
        form = label_difference(first, second)
        if form is not None:
            self.assertNotEqual(label_of(first, form), label_of(second, form))
            self.assertTrue(first.start.fits(form))
            self.assertIn(len(plain_outline(form)), (1, 2))
        else:
            for other in forms:
                if first.start.fits(other):
                    self.assertEqual(label_of(first, other), label_of(second, other), other)

    def test_by_chance(self):
        for number, (records, count) in enumerate(
            ((SMALL, 1), (SMALL, 2), (BITS, 2), (BITS, 3), (CHAIN, 1), (CHAIN, 2), (BITS, 3), (SMALL, 2)),
        ):
            chance = random.Random(number)
            for first, second in label_pairs(chance, records, count, 4, 40):
                self.check_pair(first, second, forms_of(records, first.start, 2 if count < 3 else 1))

    def test_roads_with_one_label(self):
        # Roads that stop the same forms at different ranks, or not at all.
        for number, records in enumerate((SMALL, BITS, CHAIN)):
            chance = random.Random(number)
            for first, second in label_pairs(chance, records, 2, 5, 60):
                first, second = self.relabelled(chance, first), self.relabelled(chance, second)
                self.check_pair(first, second, forms_of(records, first.start, 2))

    def relabelled(self, chance, summary):
        start, end, passages, labels, hollow, depths, compares = (
            summary.start, summary.end, summary.passages, summary.labels, summary.hollow, summary.depths,
            summary.compares)
        label = chance.choice(["red", "red", None])
        labels = tuple(label or chance.choice(["red", "blue"]) for _ in labels)
        return summary.__class__(start, end, passages, labels, hollow, depths, compares)

    def test_three_leaves(self):
        chance = random.Random(3)
        for first, second in label_pairs(chance, BITS, 2, 4, 60):
            if label_difference(first, second) is None:
                self.check_pair(first, second, forms_of(BITS, first.start, 3))

    def differing(self, rules, first_steps, second_steps):
        """Two roads over three levels that refuse hollow leaves of different depths under one label each."""
        start = Schema(Kindbook([("one", 1, None, ())]), ((0,), (1,), (2,)), ("one",) * 3, rules)
        ends = []
        for label, steps in (("red", first_steps), ("red", second_steps)):
            shape = ((0,), (1, 2)) if steps else start.shape
            ends.append(way_summary(Way("way", label, start, Schema(start.book, shape, start.kinds, Rules()), steps)))
        return label_difference(*ends)

    def test_rules_of_the_start(self):
        steps = [("unnest", 1)]
        self.assertIsNotNone(self.differing(Rules(), steps, []))
        self.assertIsNone(self.differing(Rules((1,)), steps, []))
        self.assertIsNotNone(self.differing(Rules((0,), (0, 1, 2)), [], steps))
        self.assertIsNone(self.differing(Rules(), steps, steps))

    def two_hollow_leaves(self, rules, kinds):
        """Roads whose labels differ only for forms with hollow leaves of both depths, and for no form of one leaf."""
        book = Kindbook([("one", 1, None, ()), ("two", 2, None, ())])
        start = Schema(book, ((0,), (1,), (2,)), kinds, rules)
        middle = Schema(book, ((0,), (1, 2)), kinds, Rules())
        other = Schema(book, ((0, 1), (2,)), kinds, Rules())
        end = Schema(book, ((0, 1, 2),), kinds, Rules())
        first = [Way("a", "red", start, middle, [("unnest", 1)]), Way("b", "blue", middle, end, [("unnest", 0)])]
        second = [Way("a", "blue", start, other, [("unnest", 0)]), Way("b", "red", other, end, [("unnest", 0)])]
        return road_summary(first), road_summary(second)

    def test_leaves_that_stand_side_by_side(self):
        for kinds in itertools.product(("one", "two"), repeat=3):
            for rules in all_rules(((0,), (1,), (2,))):
                first, second = self.two_hollow_leaves(rules, kinds)
                records = [("one", 1, None, ()), ("two", 2, None, ())]
                self.check_pair(first, second, forms_of(records, first.start, 2))
                self.check_pair(second, first, forms_of(records, first.start, 2))

    def test_two_leaves_are_needed(self):
        one_level = [sample_schema(((0,),), (kind,)) for kind in ("?", "day", "?", "size")]
        schemas = [sample_schema(((0,),), (kind,)) for kind in ("?", "size", "?", "day")]
        first = road_summary([Way("w", label, a, b) for label, a, b in zip("aba", one_level, one_level[1:])])
        second = road_summary([Way("w", label, a, b) for label, a, b in zip("bab", schemas, schemas[1:])])
        self.assertEqual((first.labels, second.labels), (("a", "a"), ("b", "b")))
        self.assertIsNotNone(label_difference(first, second))

    def test_start_schemas_that_are_not_the_same(self):
        schema = sample_schema(((0,), (1,)), ("day", "?"))
        for other in (schema.with_rules(Rules((0,))), schema.with_kinds(("day", "day")),
                      sample_schema(((1,), (0,)), ("day", "?")), sample_schema(((0,),), ("day",))):
            self.raises_unchanged(NotJoined, label_difference, still(schema), still(other))
        # The ends do not matter.
        flat = sample_schema(((0, 1),), ("month", "?"), Rules((), (0,)))
        full = schema.with_rules(Rules((0,)))
        way = Way("go", "red", full, flat, [("unnest", 0)])
        self.assertIsNone(label_difference(still(full), way_summary(way)))

    def test_the_empty_form_is_no_difference(self):
        kinds = [sample_schema(((0,),), (kind,)) for kind in ("day", "?", "size")]
        summary = road_summary([Way("a", "a", kinds[0], kinds[1]), Way("b", "b", kinds[1], kinds[2])])
        form = label_difference(summary, still(kinds[0]))
        self.assertEqual(len(form), 1)


class FreshnessTest(Case):
    def test_answers_and_arguments(self):
        chance = random.Random(7)
        for first, second in label_pairs(chance, SMALL, 2, 3, 10):
            self.unchanging(passing, [first, second], Rules((0,)))
            self.unchanging(label_difference, first, second)
            for rank in range(len(first.labels) + 1):
                self.unchanging(ranked_form, first, rank)
        start = schema_over(SMALL, ((0,),), ("low",))
        self.unchanging(ranked_form, still(start), 0)
