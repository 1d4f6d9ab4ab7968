"""Answers told from results (points 99 to 102)."""

import random

from formroads.answering import answer_back, unanswered
from formroads.errors import InvalidQuery, NotAnswered
from formroads.foretelling import answer_ahead
from formroads.joining import joined, road_summary, still, way_summary
from formroads.queries import answer
from formroads.reordering import early, late
from formroads.rules import Rules
from formroads.ways import Way
from tests.kindsamples import ALL_RECORDS, CHAIN
from tests.querysamples import all_queries, plain_answer
from tests.roadsamples import (
    SMALL, forms_of, plain_road, sample_schema, sampled, schema_over, some_road, some_schema,
)
from tests.samples import RECORDS, Case, plain_outline, spoil
from tests.test_differing import back_to
from tests.test_stops import BITS

DAYS = [("day", number) for number in range(3)]
NESTED = [("low", 2, None, ()), ("lower", 2, "low", (0, 0))]


def passing_forms(summary, forms):
    """The passing forms, each with its result."""
    found = []
    for form in forms:
        outcome, result = summary(form)
        if outcome == "through":
            found.append((form, result))
    return found


def some_summary(chance, records, count):
    """A summary of a road, joined or in another order, by chance."""
    start = some_schema(chance, records, count, ruled=True)
    ways = some_road(chance, records, start, chance.randint(1, 4))
    summary = road_summary(ways)
    turn = chance.choice((None, None, early, late))
    if turn is not None:
        summary = turn(summary)
        if chance.random() < 0.5:
            summary = joined(summary, road_summary(some_road(chance, records, ways[-1].end, 2)))
    return summary


class SmallSummariesTest(Case):
    def check_summary(self, records, summary, queries, forms):
        pairs = passing_forms(summary, forms)
        told = []
        for query in queries:
            found = {}
            for form, result in pairs:
                rows = plain_answer(records, summary.start, query, form)
                found.setdefault(repr(result), []).append((rows, form, result))
            answered = all(rows == same[0][0] for same in found.values() for rows, _, _ in same)
            self.check_unanswered(records, summary, query, answered)
            told.append(answered)
            for same in found.values():
                rows, _, result = same[0]
                if answered:
                    self.assertEqual(answer_back(summary, query, result), rows)
                else:
                    self.raises(NotAnswered, answer_back, summary, query, result)
        return told

    def check_unanswered(self, records, summary, query, answered):
        pair = unanswered(summary, query)
        self.assertEqual(pair is None, answered, (summary.facts(), query))
        if pair is not None:
            self.assertIsInstance(pair, tuple)
            first, second = pair
            for form in pair:
                self.assertLessEqual(len(plain_outline(form)), 2)
                # The form has the shape and the kinds of the start.
                self.assertTrue(summary.start.with_rules(Rules()).fits(form))
                self.assertEqual(summary(form)[0], "through")
            self.assertEqual(summary(first), summary(second))
            answers = [plain_answer(records, summary.start, query, form) for form in pair]
            self.assertNotEqual(*answers)

    def test_by_chance(self):
        told = []
        for number, (records, count) in enumerate(
            ((SMALL, 1), (SMALL, 2), (BITS, 2), (CHAIN, 1), (NESTED, 2), (NESTED, 2), (SMALL, 2)),
        ):
            chance = random.Random(number)
            for _ in range(25):
                summary = some_summary(chance, records, count)
                queries = sampled(chance, all_queries(records, summary.start), 6)
                told += self.check_summary(records, summary, queries, forms_of(records, summary.start, 2))
        self.assertGreater(told.count(True), 100)
        self.assertGreater(told.count(False), 100)

    def test_three_columns(self):
        told = []
        for number, records in enumerate((BITS, [("one", 1, None, ()), ("two", 2, "one", (0, 0))])):
            chance = random.Random(number)
            for _ in range(20):
                summary = some_summary(chance, records, 3)
                # Many forms with few results, so that those with one result are found.
                forms = forms_of(records, summary.start, 1 if len(summary.start.choices(0)) > 2 else 2)
                pairs = passing_forms(summary, sampled(chance, forms, 1500))
                for query in sampled(chance, all_queries(records, summary.start), 8):
                    told.append(self.check_answers(records, summary, query, pairs))
        self.assertGreater(told.count(True), 20)
        self.assertGreater(told.count(False), 20)

    def check_answers(self, records, summary, query, pairs):
        """What is unanswered is shown, and what is answered is right for these forms."""
        answered = unanswered(summary, query) is None
        self.check_unanswered(records, summary, query, answered)
        for form, result in pairs:
            if answered:
                self.assertEqual(answer_back(summary, query, result), plain_answer(records, summary.start, query, form))
        return answered

    def test_roads_that_nest_again(self):
        """Cuts are taken out and put in again, so that rows may be put together or not."""
        told = []
        for number, (records, count) in enumerate(((NESTED, 2), (BITS, 2), (NESTED, 2), (SMALL, 2))):
            chance = random.Random(number)
            for _ in range(30):
                start = some_schema(chance, records, count, ruled=True)
                ways = some_road(chance, records, start, 1) if chance.random() < 0.5 else []
                shape = chance.choice((((0,), (1,)), ((1,), (0,))))
                ways.append(back_to(ways[-1].end if ways else start, shape, "last"))
                summary = road_summary(ways)
                queries = [query for query in all_queries(records, start) if query[0] == "rows"]
                forms = forms_of(records, start, 2)
                told += self.check_summary(records, summary, sampled(chance, queries, 8), forms)
        self.assertGreater(told.count(True), 50)
        self.assertGreater(told.count(False), 50)

    def test_longer_forms(self):
        for number, records in enumerate((SMALL, BITS, NESTED, RECORDS)):
            chance = random.Random(number)
            for _ in range(25):
                summary = some_summary(chance, records, 2)
                forms = [form for form, _ in passing_forms(summary, forms_of(records, summary.start, 1)) if form]
                if forms:
                    long_forms = [self.joined_forms(chance, forms) for _ in range(12)]
                    for query in sampled(chance, all_queries(records, summary.start), 8):
                        if unanswered(summary, query) is None:
                            for form in long_forms:
                                rows = plain_answer(records, summary.start, query, form)
                                self.assertEqual(answer_back(summary, query, summary(form)[1]), rows)

    def joined_forms(self, chance, forms):
        """A form of several of the forms; rows with equal cells share an inner table sometimes."""
        form = []
        for _ in range(chance.randint(1, 7)):
            (cells, inner), = chance.choice(forms)
            if form and form[-1][0] == cells and form[-1][1] and inner and chance.random() < 0.7:
                form[-1] = (cells, form[-1][1] + inner)
            else:
                form.append((cells, inner))
        return form

    def test_still(self):
        for records in ALL_RECORDS:
            chance = random.Random(2)
            schema = some_schema(chance, records, 2, ruled=True)
            for query in all_queries(records, schema):
                self.assertIsNone(unanswered(still(schema), query))
                for form in sampled(chance, forms_of(records, schema, 2), 10):
                    rows = plain_answer(records, schema, query, form)
                    self.assertEqual(answer_back(still(schema), query, form), rows)


class UnansweredTest(Case):
    def test_values_that_are_led_together(self):
        start = sample_schema(((0, 1),), ("day", "?"))
        summary = way_summary(Way("go", "red", start, start.with_kinds(("month", "?"))))
        for query, answered in (
            (("rows", 0, ()), True), (("rows", 0, ((0, "month"),)), True), (("rows", 0, ((0, "day"),)), False),
            (("rows", 0, ((0, "?"), (1, "?"))), False), (("rows", 0, ((0, "month"), (1, "?"))), True),
            (("most", 0, "day", ()), False), (("most", 0, "month", ()), True),
            (("most", 0, "month", ((0, "day"),)), False),
        ):
            self.assertEqual(unanswered(summary, query) is None, answered)
        form = [((DAYS[2], ("size", 0)), []), ((DAYS[0], ("size", 1)), [])]
        self.assertEqual(answer_back(summary, ("most", 0, "month", ()), summary(form)[1]), [((), 1)])
        self.assertEqual(answer_back(summary, ("rows", 0, ((0, "month"),)), summary(form)[1]), [
            ((("month", 0),), 1), ((("month", 1),), 1)])

    def test_rows_that_are_put_together(self):
        flat = sample_schema(((0, 1),), ("day", "day"))
        deep = sample_schema(((0,), (1,)), ("day", "day"))
        joins = way_summary(Way("go", "red", deep, flat, [("unnest", 0)]))
        self.assertEqual(unanswered(joins, ("rows", 0, ())) is None, False)
        self.assertIsNone(unanswered(joins, ("rows", 1, ((0, "day"), (1, "month")))))
        nests = way_summary(Way("go", "red", flat, deep, [("nest", 0, (1,))]))
        self.assertIsNone(unanswered(nests, ("rows", 0, ((0, "day"),))))
        # Taken out and put in again, rows with equal cells become one.
        again = way_summary(Way("go", "red", deep, deep, [("unnest", 0), ("nest", 0, (1,))]))
        pair = unanswered(again, ("rows", 0, ()))
        self.assertEqual(sorted(len(form) for form in pair), [1, 2])
        self.assertEqual(again(pair[0]), again(pair[1]))

    def test_a_cut_with_equal_values_alone(self):
        # The new cut has the depth of the one that is taken out. It tells the rows of level 0 apart if its other
        # column always has equal values when they are compared: the kind top has one number only.
        for kind, target, answered in (
            ("top", "top", True), ("low", "low", False), ("low", "top", True), ("low", "?", False), ("top", "?", True),
            ("?", "?", False), ("?", "odd", True), ("?", "low", False), ("?", "top", True),
        ):
            start = schema_over(SMALL, ((0,), (1, 2)), ("low", kind, "low"))
            end = schema_over(SMALL, ((0, 1), (2,)), ("low", target, "low"))
            summary = way_summary(Way("go", "red", start, end, [("nest", 1, (2,)), ("unnest", 0)]))
            self.assertEqual(summary.depths, (1,))
            for query in (("rows", 0, ()), ("rows", 0, ((0, "top"),))):
                self.assertEqual(unanswered(summary, query) is None, answered, (kind, target))
            inner = [((value, ("low", number)), []) for value in summary.passages[1].passing() for number in (0, 1)]
            form = [((("low", 0),), inner), ((("low", 0),), inner[:1]), ((("low", 1),), inner)]
            if answered:
                self.assertEqual(answer_back(summary, ("rows", 0, ()), summary(form)[1]), [((), 3)])
            # The rows of the last level need no cut.
            self.assertIsNone(unanswered(summary, ("rows", 1, ())))

    def test_a_level_that_no_leaf_reaches(self):
        kinds = [sample_schema(((0,), (1,)), ("day", kind)) for kind in ("day", "?", "size")]
        summary = road_summary([Way("a", "a", kinds[0], kinds[1]), Way("b", "b", kinds[1], kinds[2])])
        for query in (("rows", 1, ()), ("rows", 1, ((1, "day"),)), ("most", 0, "day", ()), ("most", 1, "month", ())):
            self.assertIsNone(unanswered(summary, query))
            self.assertEqual(answer_back(summary, query, [((DAYS[0],), []), ((DAYS[0],), [])]), [])
        # Hollow leaves are rows of level 0, and nothing else is.
        self.assertIsNone(unanswered(summary, ("rows", 0, ((0, "day"),))))
        self.assertEqual(answer_back(summary, ("rows", 0, ((0, "day"),)), [((DAYS[0],), []), ((DAYS[1],), [])]), [
            ((DAYS[0],), 1), ((DAYS[1],), 1)])

    def test_values_above_a_level_that_no_leaf_reaches(self):
        # Two days become one month, but no row of level 1 is there to be counted.
        kinds = [sample_schema(((0,), (1,)), pair) for pair in (("day", "day"), ("month", "?"), ("month", "size"))]
        summary = road_summary([Way("a", "a", kinds[0], kinds[1]), Way("b", "b", kinds[1], kinds[2])])
        for query in (("rows", 1, ((0, "day"),)), ("most", 0, "day", ()), ("rows", 1, ((0, "day"), (1, "day")))):
            self.assertIsNone(unanswered(summary, query))
            self.assertEqual(answer_back(summary, query, [((("month", 0),), [])]), [])
        self.assertIsNotNone(unanswered(summary, ("rows", 0, ((0, "day"),))))
        self.assertIsNone(unanswered(summary, ("rows", 0, ((0, "month"),))))

    def test_hollow_leaves_above_rows_that_are_put_together(self):
        start = sample_schema(((0,), (1,), (2,)), ("day", "day", "day"))
        summary = way_summary(Way("go", "red", start, start, [("unnest", 1), ("nest", 1, (2,))]))
        self.assertEqual((summary.hollow, summary.depths), ((0, 1), (1, 1)))
        first, second = unanswered(summary, ("rows", 1, ()))
        self.assertEqual(summary(first), summary(second))
        rows = [plain_answer(RECORDS, start, ("rows", 1, ()), form) for form in (first, second)]
        self.assertEqual(sorted(rows), [[((), 1)], [((), 2)]])
        form = [((DAYS[0],), []), ((DAYS[0],), [((DAYS[1],), [((DAYS[1],), [])]), ((DAYS[1],), [((DAYS[1],), [])])])]
        self.assertEqual(answer_back(summary, ("rows", 0, ()), summary(form)[1]), [((), 2)])
        self.assertEqual(answer_back(summary, ("rows", 2, ()), summary(form)[1]), [((), 2)])
        self.raises(NotAnswered, answer_back, summary, ("rows", 1, ()), summary(form)[1])

    def test_no_form_passes(self):
        kinds = [sample_schema(((0,), (1,)), (kind, "day")) for kind in ("day", "?", "size")]
        summary = road_summary([Way("a", "a", kinds[0], kinds[1]), Way("b", "b", kinds[1], kinds[2])])
        for query in (("rows", 0, ()), ("rows", 0, ((0, "day"),)), ("rows", 1, ()), ("most", 0, "day", ())):
            self.assertIsNone(unanswered(summary, query))
            self.assertEqual(answer_back(summary, query, []), [])

    def test_rules_do_not_matter(self):
        deep = sample_schema(((0,), (1,)), ("day", "day"), Rules((0,), (0, 1)))
        again = way_summary(Way("go", "red", deep, deep.with_rules(Rules()), [("unnest", 0), ("nest", 0, (1,))]))
        self.assertIsNotNone(unanswered(again, ("rows", 0, ())))
        stays = way_summary(Way("go", "red", deep, deep))
        self.assertIsNone(unanswered(stays, ("rows", 0, ())))
        form = [((DAYS[0],), []), ((DAYS[0],), [])]
        self.assertEqual(answer_back(stays, ("rows", 0, ()), form), [((), 2)])

    def test_results_with_hollow_leaves(self):
        start = sample_schema(((0,), (1,), (2,)), ("day", "day", "?"))
        end = sample_schema(((0, 1), (2,)), ("month", "day", "?"))
        summary = way_summary(Way("go", "red", start, end, [("unnest", 0)]))
        form = [
            ((DAYS[0],), [((DAYS[1],), []), ((DAYS[1],), [((DAYS[2],), []), ((DAYS[2],), [])])]),
            ((DAYS[1],), [((DAYS[1],), [])])]
        _, result = summary(form)
        self.assertEqual(answer_back(summary, ("rows", 1, ((0, "month"), (1, "?"))), result), [
            ((("month", 0), DAYS[1]), 3)])
        self.assertEqual(answer_back(summary, ("rows", 2, ((2, "?"),)), result), [((DAYS[2],), 2)])
        self.raises_unchanged(NotAnswered, answer_back, summary, ("rows", 0, ()), result)
        self.raises_unchanged(NotAnswered, answer_back, summary, ("rows", 1, ((0, "day"),)), result)

    def test_queries_that_do_not_fit(self):
        start = sample_schema(((0, 1),), ("day", "?"))
        end = sample_schema(((0,), (1,)), ("month", "size"))
        summary = way_summary(Way("go", "red", start, end, [("nest", 0, (1,))]))
        for query in (("rows", 1, ()), ("rows", 0, ((1, "size"),)), ("rows", 0, ((0, "size"),)), ("most", 1, "size", ())):
            self.raises_unchanged(InvalidQuery, unanswered, summary, query)
            # Whatever the result is.
            self.raises_unchanged(InvalidQuery, answer_back, summary, query, [])
        self.raises_unchanged(NotAnswered, answer_back, summary, ("rows", 0, ((0, "day"),)), [])
        # The start counts for what is told back, the end for what is told ahead.
        form = [((DAYS[0], ("size", 1)), [])]
        self.assertEqual(answer_ahead(summary, ("rows", 1, ()), form), ("through", [((), 1)]))
        self.assertEqual(answer_ahead(summary, ("most", 1, "size", ()), form), ("through", [((), 1)]))
        stopped = [((DAYS[0], DAYS[0]), [])]
        for query in (("rows", 2, ()), ("rows", 0, ((0, "day"),)), ("most", 0, "day", ()), ("rows", 0, ((1, "size"),))):
            self.raises_unchanged(InvalidQuery, answer_ahead, summary, query, form)
            self.raises_unchanged(InvalidQuery, answer_ahead, summary, query, stopped)
        self.assertEqual(answer_ahead(summary, ("rows", 1, ()), stopped), ("stopped", "red"))


class AheadTest(Case):
    def test_by_chance(self):
        for number, records in enumerate(ALL_RECORDS + [SMALL]):
            chance = random.Random(number)
            for _ in range(15):
                ways = some_road(chance, records, some_schema(chance, records, 2, ruled=True), chance.randint(1, 4))
                forms = sampled(chance, forms_of(records, ways[0].start, 2), 6)
                for query in sampled(chance, all_queries(records, ways[-1].end), 6):
                    for form in forms:
                        outcome, told = plain_road(records, ways, form)
                        if outcome == "through":
                            told = plain_answer(records, ways[-1].end, query, told)
                        self.assertEqual(answer_ahead(road_summary(ways), query, form), (outcome, told))

    def test_nothing_passes(self):
        kinds = [sample_schema(((0,),), (kind,)) for kind in ("day", "?", "size")]
        summary = road_summary([Way("a", "a", kinds[0], kinds[1]), Way("b", "b", kinds[1], kinds[2])])
        self.assertEqual(answer_ahead(summary, ("rows", 0, ()), [((DAYS[0],), [])]), ("stopped", "b"))
        self.assertEqual(answer_ahead(summary, ("rows", 0, ()), []), ("through", []))


class FreshnessTest(Case):
    def test_answers_and_arguments(self):
        chance = random.Random(9)
        for _ in range(20):
            summary = some_summary(chance, NESTED, 2)
            forms = passing_forms(summary, sampled(chance, forms_of(NESTED, summary.start, 2), 5))
            for query in sampled(chance, all_queries(NESTED, summary.start), 4):
                self.unchanging(unanswered, summary, query)
                if unanswered(summary, query) is None:
                    for form, result in forms:
                        self.unchanging(answer_back, summary, query, result)
            for query in sampled(chance, all_queries(NESTED, summary.end), 3):
                for form, _ in forms:
                    self.unchanging(answer_ahead, summary, query, form)

    def test_a_spoiled_pair(self):
        deep = sample_schema(((0,), (1,)), ("day", "day"))
        again = way_summary(Way("go", "red", deep, deep, [("unnest", 0), ("nest", 0, (1,))]))
        spoil(unanswered(again, ("rows", 0, ())))
        first, second = unanswered(again, ("rows", 0, ()))
        self.assertNotEqual(answer(deep, ("rows", 0, ()), first), answer(deep, ("rows", 0, ()), second))
