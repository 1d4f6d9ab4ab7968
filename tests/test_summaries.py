"""What a road does, told in a summary (points 70 to 74)."""

import random

from formroads.joining import road_summary, still, way_summary
from formroads.passages import Passage
from formroads.rules import Rules
from formroads.summaries import Summary
from formroads.ways import Way
from tests.kindsamples import ALL_RECORDS
from tests.roadsamples import (
    SMALL, forms_of, plain_road, sample_schema, sampled, schema_over, some_road, some_schema,
)
from tests.samples import Case, plain_outline, plain_rows, sample_book

DAYS = [("day", number) for number in range(3)]
SIZE = ("size", 1)


def plain_facts(ways):
    """The facts of the summary of a road by the words of points 70 to 73; passages are told by themselves."""
    start, end = ways[0].start, ways[-1].end
    columns = range(len(start.kinds))
    sequences = [[start.kinds[column]] + [way.end.kinds[column] for way in ways] for column in columns]
    passages = [Passage.of(start.book, sequence).facts() for sequence in sequences]
    hollow = [0] * (len(start.shape) - 1)
    # Each cut: its number at the start (None for a new one), its columns, its depth and its entries.
    chain = [
        (number, set(sum(start.shape[:number], ())), number, [None for _ in columns])
        for number in range(1, len(start.shape))
    ]
    for stage, way in enumerate(ways, start=1):
        reached = [([kind for kind in sequence[:stage + 1] if kind != "?"] or ["?"])[-1] for sequence in sequences]
        for step in way.steps:
            level = step[1]
            if step[0] == "unnest":
                number = chain.pop(level)[0]
                if number is not None:
                    hollow[number - 1] = stage
                continue
            above = chain[level - 1] if level else (None, set(), 0, [None for _ in columns])
            larger = chain[level][1] if level < len(chain) else set(columns)
            cut = larger - set(step[2])
            entries = [reached[column] if column in cut - above[1] else above[3][column] for column in columns]
            chain.insert(level, (None, cut, above[2], entries))
    compares = [
        tuple("?" if entry and passage[6] else entry for entry, passage in zip(entries, passages))
        for _, _, _, entries in chain
    ]
    stages = sorted({stage for passage in passages for stage in (passage[4], passage[6])} | set(hollow) | {0})
    ranks = {stage: rank for rank, stage in enumerate(stages)}
    ranked = tuple(
        (first, last, len(stages) - 1, gate, ranks[gate_stage], reached, ranks[fail_stage])
        for first, last, _, gate, gate_stage, reached, fail_stage in passages
    )
    schemas = [(each.shape, each.kinds, each.rules.full, each.rules.parted) for each in (start, end)]
    labels = tuple(ways[stage - 1].label for stage in stages if stage)
    depths = tuple(depth for _, _, depth, _ in chain)
    return (*schemas, ranked, labels, tuple(ranks[stage] for stage in hollow), depths, tuple(compares))


def plain_rank(summary, form):
    """The rank of a form by the words of point 74."""
    ranks = [
        summary.passages[column].stage(value)
        for level, cells in plain_rows(form) for column, value in zip(summary.start.shape[level], cells)
    ]
    depths = [len(path) - 1 for _, path in plain_outline(form)]
    ranks += [summary.hollow[depth] for depth in depths if depth < len(summary.start.shape) - 1]
    return min([rank for rank in ranks if rank], default=0)


class SmallRoadsTest(Case):
    def test_by_chance(self):
        for number, records in enumerate(ALL_RECORDS + [SMALL, SMALL]):
            chance = random.Random(number)
            for _ in range(60):
                start = some_schema(chance, records, chance.randint(1, 3), ruled=True)
                ways = some_road(chance, records, start, chance.randint(1, 5))
                self.check_road(chance, records, ways)

    def test_four_columns(self):
        chance = random.Random(4)
        for _ in range(150):
            ways = some_road(chance, SMALL, some_schema(chance, SMALL, 4), chance.randint(1, 4))
            summary = road_summary(ways)
            self.assertEqual(summary.facts(), plain_facts(ways))
            for form in sampled(chance, forms_of(SMALL, ways[0].start, 1), 15):
                self.check_form(SMALL, ways, summary, form)
                self.check_form(SMALL, ways, summary, form + form)

    def check_road(self, chance, records, ways):
        summary = road_summary(ways)
        self.assertEqual(summary.facts(), plain_facts(ways))
        for column, kind in enumerate(ways[0].start.kinds):
            for value in ways[0].start.book.members(kind):
                self.assertEqual(summary.rank(column, value), summary.passages[column].stage(value))
        most = 2 if len(ways[0].start.kinds) < 3 else 1
        for form in sampled(chance, forms_of(records, ways[0].start, most), 15):
            self.check_form(records, ways, summary, form)
            self.check_form(records, ways, summary, form + form)

    def check_form(self, records, ways, summary, form):
        outcome = plain_road(records, ways, form)
        self.assertEqual(summary(form), outcome)
        rank = plain_rank(summary, form)
        self.assertEqual(summary.form_rank(form), rank)
        self.assertEqual(outcome[0], "stopped" if rank else "through")
        if outcome[0] == "through":
            self.check_branches(summary, plain_outline(form), plain_outline(outcome[1]))

    def check_branches(self, summary, outline, result):
        """What `shares` and `end_branch_of` tell of neighbouring leaves."""
        def values(path):
            cells = {c: v for level, row in zip(summary.start.shape, path) for c, v in zip(level, row)}
            return [cells.get(column) for column in range(len(summary.start.kinds))]

        for number in range(1, len(outline)):
            told = (values(outline[number - 1][1]), values(outline[number][1]), outline[number][0])
            self.assertEqual(summary.end_branch_of(*told), result[number][0])
            sharing = [at + 1 for at in range(len(summary.depths)) if summary.shares(at, *told)]
            self.assertEqual(max(sharing, default=0), result[number][0])
            for at, (depth, entries) in enumerate(zip(summary.depths, summary.compares)):
                equal = told[2] >= depth and all(
                    summary.start.book.led(first, kind) == summary.start.book.led(second, kind)
                    for kind, first, second in zip(entries, *told[:2]) if kind is not None)
                self.assertEqual(summary.shares(at, *told), equal)


class FactsTest(Case):
    def test_the_example(self):
        start = sample_schema(((0, 1),), ("day", "?"))
        end = sample_schema(((0,), (1,)), ("month", "size"))
        summary = way_summary(Way("sort", "red", start, end, [("nest", 0, (1,))]))
        self.assertEqual(summary.facts()[2:], (
            (("day", "month", 1, None, 0, "month", 0), ("?", "size", 1, "size", 1, "size", 0)), ("red",), (), (0,),
            (("month", None),)))
        self.assertEqual(summary.facts()[:2], (
            (((0, 1),), ("day", "?"), (), ()), (((0,), (1,)), ("month", "size"), (), ())))
        self.assertEqual(summary([((("day", 0), ("month", 1)), [])]), ("stopped", "red"))

    def test_a_cut_that_is_taken_out_and_put_in_again(self):
        deep = sample_schema(((0,), (1,)), ("?", "?"))
        flat = sample_schema(((0, 1),), ("?", "?"))
        ways = [
            Way("out", "red", deep, flat, [("unnest", 0)]), Way("in", "blue", flat, deep, [("nest", 0, (1,))])]
        at_once = Way("both", "green", deep, deep, [("unnest", 0), ("nest", 0, (1,))])
        for summary, label in ((road_summary(ways), "red"), (way_summary(at_once), "green")):
            self.assertEqual(summary.facts()[3:], ((label,), (1,), (0,), (("?", None),)))
            self.assertEqual(summary([((SIZE,), [])]), ("stopped", label))
            form = [((SIZE,), [((SIZE,), [])]), ((SIZE,), [((SIZE,), [])])]
            self.assertEqual(summary(form), ("through", [((SIZE,), [((SIZE,), []), ((SIZE,), [])])]))

    def test_a_gate_and_a_fail_stage(self):
        schemas = [sample_schema(((0,),), (kind,)) for kind in ("?", "?", "day", "?", "size", "?")]
        ways = [
            Way("way", label, first, second)
            for label, first, second in zip(("a", "b", "c", "d", "e"), schemas, schemas[1:])
        ]
        summary = road_summary(ways)
        self.assertEqual(summary.facts()[2:], ((("?", "?", 2, "day", 1, "day", 2),), ("b", "d"), (), (), ()))
        self.assertEqual([summary.rank(0, value) for value in (SIZE, DAYS[0])], [1, 2])
        self.assertEqual(summary([((DAYS[0],), []), ((SIZE,), [])]), ("stopped", "b"))
        self.assertEqual(summary([((DAYS[0],), [])]), ("stopped", "d"))
        self.assertEqual(summary([]), ("through", []))

    def test_labels_that_are_shared(self):
        schemas = [sample_schema(((0,),), (kind,)) for kind in ("?", "day", "?", "size")]
        ways = [Way("way", "same", first, second) for first, second in zip(schemas, schemas[1:])]
        self.assertEqual(road_summary(ways).labels, ("same", "same"))

    def test_entries_become_unknown_if_no_value_passes(self):
        flat = sample_schema(((0, 1),), ("?", "day"))
        deep = sample_schema(((0,), (1,)), ("day", "day"))
        lost = sample_schema(((0,), (1,)), ("?", "day"))
        beside = sample_schema(((0,), (1,)), ("size", "day"))
        ways = [Way("a", "a", flat, deep, [("nest", 0, (1,))]), Way("b", "b", deep, lost), Way("c", "c", lost, beside)]
        self.assertEqual(road_summary(ways[:2]).compares, (("day", None),))
        self.assertEqual(road_summary(ways).compares, (("?", None),))

    def test_ranks_of_a_form(self):
        start = sample_schema(((0,), (1,)), ("?", "?"))
        middle = sample_schema(((0,), (1,)), ("?", "day"))
        end = sample_schema(((0, 1),), ("day", "day"))
        summary = road_summary([Way("a", "a", start, middle), Way("b", "b", middle, end, [("unnest", 0)])])
        for form, rank in (
            ([((DAYS[0],), [((DAYS[0],), [])])], 0), ([((DAYS[0],), [])], 2), ([((SIZE,), [])], 2),
            ([((SIZE,), [((SIZE,), [])])], 1), ([((DAYS[0],), []), ((DAYS[0],), [((SIZE,), [])])], 1), ([], 0),
        ):
            self.assertEqual(summary.form_rank(form), rank)
            self.assertEqual(summary(form)[1] if rank else summary(form)[0], ["through", "a", "b"][rank])

    def test_rules_are_not_used(self):
        schema = sample_schema(((0,), (1,)), ("day", "day"), Rules((0,), (0, 1)))
        form = [((DAYS[0],), []), ((DAYS[0],), [])]
        self.assertEqual(still(schema)(form), ("through", form))


class SummaryTest(Case):
    def test_nothing_is_checked(self):
        start, end = sample_schema(((0,),), ("day",)), sample_schema(((0, 1),), ("?", "size"))
        passages = [Passage(sample_book(), "day", "?", 9, None, 0, None, 7)]
        for summary in (
            Summary(start, end, passages, ["red", "blue"], [5], [3, 4], [["day", None], (None, "?")]),
            Summary(start, end, tuple(passages), ("red", "blue"), (5,), (3, 4), (("day", None), (None, "?"))),
        ):
            self.assertTrue(summary.start.same(start) and summary.end.same(end))
            self.assertEqual([passage.facts() for passage in summary.passages], [passages[0].facts()])
            self.assertEqual((summary.labels, summary.hollow, summary.depths), (("red", "blue"), (5,), (3, 4)))
            self.assertEqual(summary.compares, (("day", None), (None, "?")))
            self.assertIsInstance(summary.passages, tuple)
            self.assertEqual(summary.facts(), (
                (((0,),), ("day",), (), ()), (((0, 1),), ("?", "size"), (), ()),
                (("day", "?", 9, None, 0, None, 7),), ("red", "blue"), (5,), (3, 4), (("day", None), (None, "?"))))

    def test_facts_have_the_rules(self):
        schema = sample_schema(((0,), (1,)), ("day", "day"), Rules((0,), (1, 0)))
        self.assertEqual(still(schema).facts()[0], (((0,), (1,)), ("day", "day"), (0,), (0, 1)))


class FreshnessTest(Case):
    def test_answers_and_arguments(self):
        schema = schema_over(SMALL, ((0,), (1,)), ("?", "low"))
        end = schema_over(SMALL, ((0,), (1,)), ("top", "low"))
        summary = way_summary(Way("a", "a", schema, end))
        form = [((("low", 1),), [((("low", 0),), [])]), ((("top", 0),), [])]
        self.unchanging(summary, form)
        self.unchanging(still(schema), form)
        self.unchanging(summary, form + [((("odd", 0),), [])])
        self.unchanging(summary.form_rank, form)
        self.unchanging(summary.facts)
        self.unchanging(summary.rank, 0, ("odd", 0))
        values = [[("low", 1), ("low", 0)], [("low", 0), None], 0]
        self.unchanging(summary.shares, 0, *values)
        self.unchanging(summary.end_branch_of, *values)

    def test_what_is_passed_is_copied(self):
        schema = sample_schema(((0,), (1,)), ("day", "?"))
        parts = [list(still(schema).passages), ["red"], [0], [1], [[None, None]]]
        summary = Summary(schema, schema, *parts)
        facts = summary.facts()
        parts[4][0][0] = "day"
        for part in parts:
            part.clear()
        self.assertEqual(summary.facts(), facts)
