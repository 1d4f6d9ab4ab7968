"""Queries and their answers (points 96 to 98)."""

import itertools
import random

from formroads.errors import InvalidQuery
from formroads.queries import add_answers, answer, check_query, coarse_answer, is_coarser
from formroads.rules import Rules
from tests.kindsamples import ALL_RECORDS, CHAIN, TREE, kinds_of, plain_led
from tests.querysamples import all_queries, plain_answer, plain_counted, plain_fits
from tests.roadsamples import SMALL, forms_of, sample_schema, sampled, schema_over, some_schema
from tests.samples import RECORDS, Case
from tests.test_stops import BITS

DAYS = [("day", number) for number in range(3)]
SIZES = [("size", 0), ("size", 1)]
DEEP = sample_schema(((1,), (0,)), ("day", "?"))
FORM = [
    ((SIZES[0],), [((DAYS[0],), []), ((DAYS[2],), []), ((DAYS[2],), [])]), ((SIZES[1],), []),
    ((SIZES[0],), [((DAYS[1],), [])])]


class CheckQueryTest(Case):
    def test_all_small_queries(self):
        for records in (RECORDS, CHAIN, SMALL):
            chance = random.Random(1)
            schemas = [sample_schema(((0,), (1,)), ("day", "?")) if records == RECORDS else None]
            schemas += [some_schema(chance, records, count, ruled=True) for count in (1, 2, 2)]
            for schema in schemas:
                if schema is not None:
                    self.check_schema(records, schema)

    def check_schema(self, records, schema):
        pairs = [(column, kind) for column in (-1, 0, 1, 2) for kind in kinds_of(records) + ["other"]]
        groups = [()] + [(pair,) for pair in pairs] + list(itertools.product(pairs, repeat=2))
        queries = [("rows", level, some) for level in (-1, 0, 1, 2) for some in groups]
        queries += [("most", *pair, some) for pair in pairs for some in groups[:30]]
        for query in queries:
            if plain_fits(records, schema, query):
                self.assertIsNone(check_query(schema, query))
            else:
                self.raises(InvalidQuery, check_query, schema, query)

    def test_by_hand(self):
        schema = sample_schema(((2,), (0, 1)), ("day", "?", "month"), Rules((0,), (0, 1)))
        for query in (
            ("rows", 0, ()), ("rows", 0, ((2, "month"),)), ("rows", 0, ((2, "?"),)), ("rows", 1, ()),
            ("rows", 1, ((0, "month"), (1, "?"), (2, "month"))), ("most", 0, "day", ()), ("most", 2, "month", ()),
            ("most", 0, "month", ((0, "day"), (2, "?"))),
        ):
            self.assertIsNone(check_query(schema, query))
        for query in (
            ("rows", 2, ()), ("rows", -1, ()), ("rows", 0, ((0, "day"),)), ("rows", 1, ((3, "?"),)),
            ("rows", 1, ((1, "month"),)), ("rows", 1, ((2, "day"),)), ("rows", 1, ((0, "size"),)),
            ("rows", 1, ((0, "year"),)), ("rows", 1, ((2, "?"), (0, "?"))), ("rows", 1, ((0, "day"), (0, "month"))),
            ("most", 0, "?", ()), ("most", 1, "?", ()), ("most", 1, "month", ()), ("most", 0, "size", ()),
            ("most", 3, "day", ()), ("most", 0, "year", ()), ("most", 0, "day", ((1, "size"),)),
            ("most", 0, "day", ((1, "?"), (0, "day"))), ("least", 0, ()), ("least", 0, "day", ()),
        ):
            self.raises_unchanged(InvalidQuery, check_query, schema, query)
            self.raises_unchanged(InvalidQuery, answer, schema, query, [])

    def test_unknown_columns_below_a_told_kind(self):
        # All kinds of the book are below the year.
        schema = schema_over(CHAIN, ((0,),), ("?",))
        self.assertIsNone(check_query(schema, ("most", 0, "year", ((0, "year"),))))
        self.raises(InvalidQuery, check_query, schema, ("most", 0, "half", ()))
        self.assertEqual(answer(schema, ("most", 0, "year", ()), [((("term", 2),), [])]), [((), 0)])


class AnswerTest(Case):
    def test_by_hand(self):
        for query, wanted in (
            (("rows", 0, ()), [((), 3)]), (("rows", 1, ()), [((), 4)]),
            (("rows", 0, ((1, "?"),)), [((SIZES[0],), 2), ((SIZES[1],), 1)]),
            (("rows", 1, ((1, "?"),)), [((SIZES[0],), 4)]),
            (("rows", 1, ((0, "month"),)), [((("month", 0),), 2), ((("month", 1),), 2)]),
            (("rows", 1, ((0, "month"), (1, "?"))), [((("month", 0), SIZES[0]), 2), ((("month", 1), SIZES[0]), 2)]),
            (("most", 0, "day", ()), [((), 2)]), (("most", 0, "month", ()), [((), 1)]),
            (("most", 0, "day", ((0, "month"),)), [((("month", 0),), 1), ((("month", 1),), 2)]),
            (("most", 0, "month", ((0, "day"), (1, "?"))),
             [((DAYS[0], SIZES[0]), 0), ((DAYS[1], SIZES[0]), 0), ((DAYS[2], SIZES[0]), 1)]),
        ):
            self.assertEqual(answer(DEEP, query, FORM), wanted)
            self.assertEqual(answer(DEEP, query, []), [])

    def test_by_chance(self):
        for number, records in enumerate(ALL_RECORDS + [SMALL]):
            chance = random.Random(number)
            for _ in range(12):
                schema = some_schema(chance, records, chance.randint(1, 3), ruled=True)
                forms = forms_of(records, schema, 1)
                for query in sampled(chance, all_queries(records, schema), 25):
                    self.assertIsNone(check_query(schema, query))
                    for _ in range(3):
                        form = sum(sampled(chance, forms, 6)[:chance.randint(0, 6)], [])
                        self.assertEqual(answer(schema, query, form), plain_answer(records, schema, query, form))

    def test_keys_are_compared_as_tuples(self):
        # The order of the names, not that of the book.
        schema = sample_schema(((0,),), ("?",))
        form = [((value,), []) for value in (SIZES[0], ("month", 1), DAYS[1], ("month", 0), DAYS[0], SIZES[0])]
        self.assertEqual(answer(schema, ("rows", 0, ((0, "?"),)), form), [
            ((DAYS[0],), 1), ((DAYS[1],), 1), ((("month", 0),), 1), ((("month", 1),), 1), ((SIZES[0],), 2)])

    def test_add_answers(self):
        for number, records in enumerate(ALL_RECORDS):
            chance = random.Random(number)
            for _ in range(10):
                schema = some_schema(chance, records, 2)
                forms = sampled(chance, forms_of(records, schema, 1), 5)
                for query in sampled(chance, all_queries(records, schema), 15):
                    answers = [answer(schema, query, form) for form in forms]
                    self.assertEqual(add_answers(query, *answers), answer(schema, query, sum(forms, [])))
                    self.assertEqual(add_answers(query, answers[0]), answers[0])
                    self.assertEqual(add_answers(query), [])
        rows = [((DAYS[0],), 2), ((DAYS[1],), 1)]
        self.assertEqual(add_answers(("rows", 9, ()), rows, [], rows[1:]), [((DAYS[0],), 2), ((DAYS[1],), 2)])
        self.assertEqual(add_answers(("most", 9, "?", ()), rows, rows[1:], [((DAYS[1],), 0)]), rows)
        self.assertEqual(add_answers(("rows", 0, ()), rows[1:], rows[:1]), rows)


class CoarserTest(Case):
    def test_by_hand(self):
        schema = sample_schema(((0, 1, 2),), ("day", "?", "day"))
        fine = ("rows", 0, ((0, "day"), (1, "?"), (2, "month")))
        for groups, coarser in (
            ((), True), (((0, "day"),), True), (((0, "month"),), True), (((0, "?"),), True), (((2, "month"),), True),
            (((2, "day"),), False), (((2, "?"),), False), (((0, "month"), (1, "?"), (2, "month")), True),
            (((0, "month"), (2, "?")), False),
        ):
            self.assertEqual(is_coarser(schema, fine, ("rows", 0, groups)), coarser)
        self.assertTrue(is_coarser(schema, fine, fine))
        self.assertFalse(is_coarser(schema, ("rows", 0, ()), fine))
        # An unknown kind tells all of a column.
        self.assertTrue(is_coarser(schema, ("rows", 0, ((0, "?"),)), ("rows", 0, ((0, "month"),))))
        self.assertFalse(is_coarser(schema, ("rows", 0, ((0, "month"),)), ("rows", 0, ((2, "month"),))))

    def test_other_words_and_levels(self):
        schema = sample_schema(((0,), (1,)), ("day", "day"))
        queries = [("rows", 0, ()), ("rows", 1, ()), ("most", 0, "day", ()), ("most", 0, "month", ()), ("most", 1, "day", ())]
        for one, other in itertools.product(queries, repeat=2):
            self.assertEqual(is_coarser(schema, one, other), one == other)
            if one != other:
                self.raises_unchanged(InvalidQuery, coarse_answer, schema, one, other, [])

    def test_by_chance(self):
        told = []
        for number, records in enumerate((RECORDS, CHAIN, TREE, SMALL)):
            chance = random.Random(number)
            for _ in range(8):
                schema = some_schema(chance, records, 2)
                queries = sampled(chance, all_queries(records, schema), 30)
                forms = [sum(sampled(chance, forms_of(records, schema, 1), 5), []) for _ in range(3)]
                for one, other in itertools.product(queries, repeat=2):
                    told.append(self.check_pair(records, schema, one, other, forms))
        self.assertGreater(told.count(True), 100)

    def check_pair(self, records, schema, query, other, forms):
        coarser = query[:-1] == other[:-1] and all(
            any(column == same and self.is_coarser_group(records, schema, column, kind, coarse)
                for same, kind in query[-1])
            for column, coarse in other[-1])
        self.assertEqual(is_coarser(schema, query, other), coarser)
        for form in forms:
            rows = plain_answer(records, schema, query, form)
            if coarser:
                wanted = plain_answer(records, schema, other, form)
                self.assertEqual(coarse_answer(schema, query, other, rows), wanted)
            else:
                self.raises(InvalidQuery, coarse_answer, schema, query, other, rows)
        return coarser

    def is_coarser_group(self, records, schema, column, kind, other):
        if kind == "?":
            return True
        if other == "?":
            return kind == schema.kinds[column]
        return plain_led(records, (kind, 0), other) is not None

    def test_queries_that_do_not_fit(self):
        schema = sample_schema(((0,), (1,)), ("day", "?"))
        good = ("rows", 1, ((0, "day"),))
        for bad in (("rows", 2, ()), ("rows", 1, ((1, "day"),)), ("most", 0, "size", ()), ("rows", 0, ((1, "?"),))):
            for one, other in ((good, bad), (bad, good), (bad, bad)):
                self.raises_unchanged(InvalidQuery, is_coarser, schema, one, other)
                self.raises_unchanged(InvalidQuery, coarse_answer, schema, one, other, [])


class FreshnessTest(Case):
    def test_answers_and_arguments(self):
        for query in (("rows", 1, ((0, "month"), (1, "?"))), ("most", 0, "day", ((1, "?"),)), ("rows", 0, ())):
            rows = answer(DEEP, query, FORM)
            self.unchanging(check_query, DEEP, query)
            self.unchanging(answer, DEEP, query, FORM)
            self.unchanging(add_answers, query, rows, list(rows), [])
            self.unchanging(add_answers, query, rows)
            self.unchanging(is_coarser, DEEP, query, query)
            self.unchanging(coarse_answer, DEEP, query, (*query[:-1], ()), rows)
            self.unchanging(coarse_answer, DEEP, query, query, rows)

    def test_the_plain_counted_rows(self):
        self.assertEqual(len(plain_counted(DEEP, ("rows", 0, ()), FORM)), 3)
        self.assertEqual(len(plain_counted(DEEP, ("most", 0, "day", ()), FORM)), 4)
