"""Notes of borders (points 57 and 58)."""

import itertools

from formroads.errors import Clash, InvalidForm, InvalidNote, InvalidSchema, UnknownName, Unreached
from formroads.rules import Rules
from formroads.schemas import Schema
from formroads.valuenotes import lost_values, restore_values, sources, value_count, value_note, value_sizes
from tests.kindsamples import (
    all_books, kinds_of, plain_allowed, plain_cross, plain_led, plain_members, values_of,
)
from tests.samples import Case, RECORDS, all_forms, plain_outline, sample_book

SHAPE = ((1,), (0,))
DEEP = Schema(sample_book(), SHAPE, ("?", "day"), Rules())
DAY, LATE, JULY, SIZE = ("day", 0), ("day", 2), ("month", 0), ("size", 1)


def plain_sources(records, kind, target, value):
    return [member for member in plain_members(records, kind) if plain_led(records, member, target) == value]


def sources_by_value(records, schema, targets, result):
    """The sources of each value of a result in the order of the rows, by the words of point 57."""
    found = []

    def descend(table, level):
        for cells, inner in table:
            for column, value in zip(schema.shape[level], cells):
                found.append(plain_sources(records, schema.kinds[column], targets[column], value))
            descend(inner, level + 1)

    descend(result, 0)
    return found


class SourcesTest(Case):
    def test_all_kinds(self):
        for records, book in all_books():
            for kind, target in itertools.product(kinds_of(records), repeat=2):
                for value in plain_members(records, "?"):
                    self.assertEqual(sources(book, kind, target, value), plain_sources(records, kind, target, value))

    def test_by_hand(self):
        book = sample_book()
        self.assertEqual(sources(book, "day", "month", JULY), [("day", 0), ("day", 1)])
        self.assertEqual(sources(book, "?", "month", JULY), [JULY, ("day", 0), ("day", 1)])
        self.assertEqual(sources(book, "?", "?", JULY), [JULY])
        self.assertEqual(sources(book, "day", "?", JULY), [])
        # A border that is not allowed has no sources, but is no error.
        self.assertEqual(sources(book, "month", "day", DAY), [])

    def test_strange_kinds(self):
        for kind, target in (("week", "day"), ("day", "week"), ("week", "?"), ("month", "week")):
            self.raises(UnknownName, sources, sample_book(), kind, target, DAY)


class SmallFormsTest(Case):
    def test_notes_of_all_forms(self):
        for kinds in (("?", "day"), ("day", "month"), ("size", "?")):
            schema = Schema(sample_book(), SHAPE, kinds, Rules((0,), (0, 1)))
            forms = all_forms(SHAPE, [plain_members(RECORDS, kind)[::2] for kind in kinds], 2)
            forms += all_forms(SHAPE, [plain_members(RECORDS, kind) for kind in kinds], 1)
            for targets in itertools.product(kinds_of(RECORDS), repeat=2):
                if all(plain_allowed(RECORDS, *pair) for pair in zip(kinds, targets)):
                    for form in forms[::3]:
                        self.check_form(schema, targets, form)

    def check_form(self, schema, targets, form):
        result = plain_cross(RECORDS, form, schema.shape, targets)
        if result is None:
            self.raises(InvalidForm, value_note, schema, targets, form)
            return
        lists = sources_by_value(RECORDS, schema, targets, result)
        note = [found.index(value) for found, value in zip(lists, values_of(form)) if len(found) > 1]
        self.assertEqual(value_note(schema, targets, form), note)
        self.assertEqual(restore_values(schema, list(targets), result, note), form)
        self.assertEqual(value_sizes(schema, targets, result), [len(found) for found in lists if len(found) > 1])
        count = 1
        for found in lists:
            count *= len(found)
        self.assertEqual(value_count(schema, targets, result), count)

    def test_all_forms_of_a_result(self):
        schema = Schema(sample_book(), SHAPE, ("?", "day"), Rules())
        for targets in (("month", "month"), ("?", "month"), ("month", "day"), ("month", "?"), ("size", "month")):
            found = {}
            for form in all_forms(SHAPE, [plain_members(RECORDS, kind) for kind in schema.kinds], 2):
                result = plain_cross(RECORDS, form, SHAPE, targets)
                if result is not None:
                    found.setdefault(repr(result), (result, []))[1].append(form)
            results = all_forms(SHAPE, [plain_members(RECORDS, kind) for kind in targets], 2)
            for result in results[::1 if len(results) < 100 else 5]:
                self.check_result(schema, targets, result, found.get(repr(result), (result, []))[1])

    def check_result(self, schema, targets, result, forms):
        self.assertEqual(value_count(schema, targets, result), len(forms))
        if not forms:
            self.raises(Unreached, value_sizes, schema, targets, result)
            self.raises(Unreached, restore_values, schema, targets, result, [])
            return
        sizes = value_sizes(schema, targets, result)
        brought = [
            restore_values(schema, targets, result, list(note)) for note in itertools.product(*map(range, sizes))]
        self.assertEqual(sorted(map(repr, brought)), sorted(map(repr, forms)))

    def test_columns_of_one_level(self):
        schema = Schema(sample_book(), ((0, 2), (1,)), ("day", "day", "?"), Rules())
        form = [((LATE, JULY), [((DAY,), []), ((("day", 1),), [])])]
        targets = ("month", "month", "month")
        self.assertEqual(value_note(schema, targets, form), [0, 0, 1])
        # The month that is late has one source by the day, the other values have several.
        result = [((("month", 1), JULY), [((JULY,), []), ((JULY,), [])])]
        self.assertEqual(value_sizes(schema, targets, result), [3, 2, 2])
        self.assertEqual(restore_values(schema, targets, result, [0, 0, 1]), form)
        self.assertEqual(value_count(schema, targets, result), 12)


class NotesTest(Case):
    def test_the_empty_form(self):
        self.assertEqual(value_note(DEEP, ("month", "month"), []), [])
        self.assertEqual(restore_values(DEEP, ("month", "month"), [], []), [])
        self.assertEqual(value_count(DEEP, ("month", "month"), []), 1)
        self.assertEqual(value_sizes(DEEP, ("month", "month"), []), [])
        self.raises(InvalidNote, restore_values, DEEP, ("month", "month"), [], [0])

    def test_rules_are_not_used(self):
        form = [((DAY,), []), ((DAY,), [((DAY,), []), ((DAY,), [])])]
        schema = DEEP.with_rules(Rules((0,), (0, 1)))
        self.assertEqual(value_note(schema, ("?", "month"), form), [0, 0])
        result = [((JULY,), []), ((JULY,), [((DAY,), []), ((DAY,), [])])]
        self.assertEqual(restore_values(schema, ("?", "month"), result, [0, 0]), form)
        self.assertEqual(value_count(schema, ("?", "month"), result), 4)
        self.assertEqual(value_sizes(schema, ("?", "month"), result), [2, 2])

    def test_notes_that_do_not_fit(self):
        result = [((JULY,), []), ((JULY,), [])]
        for note in ([], [0], [0, 0, 0], [2, 0], [0, 2], [-1, 0], [0, -1], [9, 9]):
            self.raises_unchanged(InvalidNote, restore_values, DEEP, ("?", "month"), result, note)

    def test_results_without_a_source(self):
        result = [((JULY,), [])]
        self.raises(Unreached, value_sizes, DEEP, ("?", "?"), result)
        self.raises(Unreached, restore_values, DEEP, ("?", "?"), result, [5])
        self.assertEqual(value_count(DEEP, ("?", "?"), result), 0)

    def test_many_rows(self):
        result = [((JULY,), [])] * 300
        self.assertEqual(value_count(DEEP, ("?", "month"), result), 2 ** 300)
        form = restore_values(DEEP, ("?", "month"), result, [0, 1] * 150)
        self.assertEqual(value_note(DEEP, ("?", "month"), form), [0, 1] * 150)

    def asked(self, targets, form):
        return [
            (value_note, DEEP, targets, form), (restore_values, DEEP, targets, form, [7]),
            (value_count, DEEP, targets, form), (value_sizes, DEEP, targets, form),
        ]

    def test_targets(self):
        strange = [((SIZE,), [((SIZE, SIZE), [])])]
        for targets, error in (
            ((), InvalidSchema), (("?",), InvalidSchema), (("?", "?", "?"), InvalidSchema),
            (("week",), InvalidSchema), (("?", "size", "week"), InvalidSchema),
            (("week", "?"), UnknownName), (("week", "size"), UnknownName), (("?", "week"), UnknownName),
            (("?", "size"), Clash), (["day", "size"], Clash),
        ):
            for form in ([], strange, [((DAY,), [])]):
                for call in self.asked(targets, form):
                    self.raises_unchanged(error, *call)
            self.raises_unchanged(error, lost_values, DEEP, targets)

    def test_forms_that_do_not_fit(self):
        for form in ([((DAY, DAY), [])], [((DAY,), [((DAY,), [((DAY,), [])])])], [((SIZE,), [])], [((("day", 3),), [])],
                     [((DAY,), [((("month", 2),), [])])], [((), [])]):
            self.raises(InvalidForm, value_note, DEEP, ("?", "?"), form)
            for function in (value_count, value_sizes):
                self.raises(InvalidForm, function, DEEP, ("?", "day"), form)
            self.raises(InvalidForm, restore_values, DEEP, ("?", "day"), form, [7])
        # A value that stops, and a value of the result that is not a member of the target.
        self.raises(InvalidForm, value_note, DEEP, ("day", "?"), [((DAY,), [((SIZE,), [])])])
        for function in (value_count, value_sizes):
            self.raises(InvalidForm, function, DEEP, ("?", "month"), [((DAY,), [])])
        # Such a value beside one without a source.
        self.raises(InvalidForm, value_sizes, DEEP, ("day", "?"), [((JULY,), [((SIZE,), [])])])
        self.raises(InvalidForm, restore_values, DEEP, ("day", "?"), [((JULY,), [((SIZE,), [])])], [])


class LostValuesTest(Case):
    def test_all_kinds(self):
        for records, book in all_books():
            for kinds in itertools.product(kinds_of(records), repeat=2):
                for targets in itertools.product(kinds_of(records), repeat=2):
                    if all(plain_allowed(records, *pair) for pair in zip(kinds, targets)):
                        schema = Schema(book, SHAPE, kinds, Rules((), (0,)))
                        self.check_pair(records, schema, targets)

    def check_pair(self, records, schema, targets):
        pair = lost_values(schema, targets)
        lost = any(
            len(plain_sources(records, kind, target, value)) > 1
            for kind, target in zip(schema.kinds, targets) for value in plain_members(records, target))
        self.assertEqual(pair is not None, lost)
        if pair is not None:
            self.assertIsInstance(pair, tuple)
            first, second = pair
            self.assertNotEqual(first, second)
            self.assertIsNotNone(plain_cross(records, first, SHAPE, targets))
            self.assertEqual(
                plain_cross(records, first, SHAPE, targets), plain_cross(records, second, SHAPE, targets))
            for form in pair:
                self.assertEqual([len(path) for _, path in plain_outline(form)], [2])
                self.assertTrue(schema.fits(form))

    def test_one_level(self):
        schema = Schema(sample_book(), ((0, 1, 2),), ("size", "day", "?"), Rules())
        first, second = lost_values(schema, ("size", "month", "size"))
        self.assertEqual(len(first), 1)
        self.assertNotEqual(first, second)
        self.assertIsNone(lost_values(schema, ("size", "day", "day")))

    def test_four_columns(self):
        # Each column takes its value from its own kind, whichever column it is that loses one.
        kinds = ("size", "day", "month", "?")
        schema = Schema(sample_book(), ((3,), (0, 2), (1,)), kinds, Rules())
        for targets in itertools.product(("size",), ("day", "month"), ("month", "?"), ("size", "month", "?")):
            pair = lost_values(schema, targets)
            self.assertEqual(pair is not None, targets[1] == "month" or targets[3] == "month")
            if pair is not None:
                self.assertNotEqual(*pair)
                led = [plain_cross(RECORDS, form, schema.shape, targets) for form in pair]
                self.assertIsNotNone(led[0])
                self.assertEqual(*led)
                self.assertTrue(all(schema.fits(form) for form in pair))


class FreshnessTest(Case):
    def test_answers_and_arguments(self):
        form = [((DAY,), []), ((LATE,), [((SIZE,), []), ((DAY,), [])])]
        result = plain_cross(RECORDS, form, SHAPE, ("?", "month"))
        targets = ["?", "month"]
        self.unchanging(value_note, DEEP, targets, form)
        self.unchanging(value_count, DEEP, targets, result)
        self.unchanging(value_sizes, DEEP, targets, result)
        self.unchanging(restore_values, DEEP, targets, result, [1])
        self.unchanging(lost_values, DEEP, targets)
        self.unchanging(sources, sample_book(), "day", "month", JULY)
        self.unchanging(value_note, DEEP, ["?", "?"], form)
        self.unchanging(restore_values, DEEP, ["?", "?"], form, [])
