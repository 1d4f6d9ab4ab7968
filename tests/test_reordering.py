"""The same work in another order (point 84)."""

import random

from formroads.joining import joined, road_summary, still, way_summary
from formroads.reordering import early, late
from formroads.roads import run_early, run_late
from formroads.rules import Rules
from formroads.summaries import Summary
from formroads.ways import Way
from tests.kindsamples import ALL_RECORDS
from tests.roadsamples import (
    SMALL, forms_of, plain_early, plain_late, sample_schema, sampled, some_road, some_schema,
)
from tests.samples import Case

DAYS = [("day", number) for number in range(3)]


def plain_reordered(facts, borders_first):
    """The facts of the other order by the words of point 84."""
    start, end, passages, labels, hollow, depths, compares = facts
    border = sorted({stage for passage in passages for stage in (passage[4], passage[6]) if stage})
    step = sorted({rank for rank in hollow if rank})
    order = [("border", rank) for rank in border] + [("step", rank) for rank in step]
    if not borders_first:
        order = [("step", rank) for rank in step] + [("border", rank) for rank in border]
    new = {told: number for number, told in enumerate(order, start=1)}
    new.update({("border", 0): 0, ("step", 0): 0})
    new_passages = tuple(
        (first, last, len(order), gate, new["border", gate_stage], reached, new["border", fail_stage])
        for first, last, _, gate, gate_stage, reached, fail_stage in passages
    )
    kinds = []
    for first, _, _, _, _, reached, fail_stage in passages:
        kinds.append("?" if fail_stage else (reached or "?") if borders_first else first)
    return (
        start, end, new_passages, tuple(labels[rank - 1] for _, rank in order),
        tuple(new["step", rank] for rank in hollow), depths,
        tuple(tuple(entry and kind for entry, kind in zip(entries, kinds)) for entries in compares),
    )


class OutcomesTest(Case):
    def check_road(self, records, ways, forms):
        summary = road_summary(ways)
        first, last = early(summary), late(summary)
        for form in forms:
            self.assertEqual(first(form), plain_early(records, ways, form))
            self.assertEqual(last(form), plain_late(records, ways, form))
            self.assertEqual(first(form), run_early(ways, form))
            self.assertEqual(last(form), run_late(ways, form))

    def test_by_chance(self):
        for number, records in enumerate(ALL_RECORDS + [SMALL, SMALL]):
            chance = random.Random(number)
            for _ in range(50):
                count = chance.randint(1, 3)
                ways = some_road(chance, records, some_schema(chance, records, count, ruled=True), chance.randint(1, 5))
                forms = sampled(chance, forms_of(records, ways[0].start, 2 if count < 3 else 1), 20)
                self.check_road(records, ways, forms + [form + form for form in forms[:5]])

    def test_all_small_forms(self):
        chance = random.Random(84)
        for _ in range(40):
            ways = some_road(chance, SMALL, some_schema(chance, SMALL, 2), 4)
            self.check_road(SMALL, ways, sampled(chance, forms_of(SMALL, ways[0].start, 2), 150))

    def test_four_columns(self):
        chance = random.Random(4)
        for _ in range(60):
            ways = some_road(chance, SMALL, some_schema(chance, SMALL, 4), 3)
            forms = sampled(chance, forms_of(SMALL, ways[0].start, 1), 10)
            self.check_road(SMALL, ways, forms + [one + other for one, other in zip(forms, forms[1:])])


class FactsTest(Case):
    def check_facts(self, summary):
        for function, borders_first in ((early, True), (late, False)):
            found = function(summary)
            self.assertIsInstance(found, Summary)
            self.assertEqual(found.facts(), plain_reordered(summary.facts(), borders_first))
            self.assertTrue(found.start.same(summary.start))
            self.assertTrue(found.end.same(summary.end))

    def test_by_chance(self):
        for number, records in enumerate(ALL_RECORDS + [SMALL]):
            chance = random.Random(number)
            for _ in range(60):
                start = some_schema(chance, records, chance.randint(1, 4), ruled=True)
                summary = road_summary(some_road(chance, records, start, chance.randint(1, 6)))
                self.check_facts(summary)
                # Of summaries that are in another order already, too.
                self.check_facts(early(summary))
                self.check_facts(late(summary))
                self.check_facts(joined(late(summary), early(still(summary.end))))

    def test_a_rank_that_is_both(self):
        # One way stops values at its border and hollow leaves at its steps.
        start = sample_schema(((0,), (1,)), ("?", "?"))
        end = sample_schema(((0, 1),), ("day", "?"))
        summary = way_summary(Way("go", "red", start, end, [("unnest", 0)]))
        self.assertEqual((summary.labels, summary.hollow), (("red",), (1,)))
        first, last = early(summary), late(summary)
        self.assertEqual((first.labels, first.hollow), (("red", "red"), (2,)))
        self.assertEqual((last.labels, last.hollow), (("red", "red"), (1,)))
        self.assertEqual(first.passages[0].facts(), ("?", "day", 2, "day", 1, "day", 0))
        self.assertEqual(last.passages[0].facts(), ("?", "day", 2, "day", 2, "day", 0))
        self.assertEqual(first.form_rank([((DAYS[0],), [])]), 2)
        self.assertEqual(last.form_rank([((("size", 0),), [])]), 1)

    def test_entries(self):
        flat = sample_schema(((0, 1, 2, 3),), ("day", "?", "?", "day"))
        deep = sample_schema(((0, 1, 2), (3,)), ("day", "?", "day", "day"))
        open_end = deep.with_kinds(("?", "?", "?", "?"))
        end = deep.with_kinds(("month", "?", "month", "size"))
        summary = road_summary([
            Way("a", "a", flat, deep, [("nest", 0, (3,))]), Way("b", "b", deep, open_end), Way("c", "c", open_end, end)])
        self.assertEqual(summary.compares, (("day", "?", "day", None),))
        self.assertEqual(early(summary).compares, (("month", "?", "month", None),))
        self.assertEqual(late(summary).compares, (("day", "?", "?", None),))

    def test_a_passage_with_a_fail_stage(self):
        flat = sample_schema(((0, 1),), ("day", "day"))
        deep = sample_schema(((0,), (1,)), ("?", "day"))
        end = deep.with_kinds(("size", "month"))
        summary = road_summary([Way("a", "a", flat, deep, [("nest", 0, (1,))]), Way("b", "b", deep, end)])
        self.assertEqual(summary.passages[0].facts(), ("day", "size", 1, None, 0, "day", 1))
        for function in (early, late):
            self.assertEqual(function(summary).compares, (("?", None),))
            self.assertEqual(function(summary).passages[0].facts(), ("day", "size", 1, None, 0, "day", 1))

    def test_no_way(self):
        schema = sample_schema(((0,), (2,), (1,)), ("day", "?", "size"), Rules((0,), (1,)))
        for function in (early, late):
            self.assertEqual(function(still(schema)).facts(), still(schema).facts())


class FreshnessTest(Case):
    def test_answers_and_arguments(self):
        chance = random.Random(7)
        for _ in range(20):
            summary = road_summary(some_road(chance, SMALL, some_schema(chance, SMALL, 3), 4))
            self.unchanging(early, summary)
            self.unchanging(late, summary)
