"""New numbers and new names (points 28, 29 and 30)."""

import copy
import itertools

from formroads.errors import InvalidName, InvalidOrder
from formroads.forms import outline_of
from formroads.kinds import Kindbook
from formroads.renaming import (
    rename_book, rename_form, rename_schema, rename_value, renumber_form, renumber_schema, renumber_shape, renumber_step,
)
from formroads.rules import Rules, rules_of
from formroads.schemas import Schema
from formroads.shapes import path_values
from tests.samples import Case, all_forms, all_shapes, all_steps, plain, plain_shape, sample_book

SHAPE = ((0, 3), (1,), (2,))
ORDER = (2, 0, 1, 3)
NO_ORDERS = [(), (0,), (0, 1), (0, 1, 2, 3), (0, 0, 1), (0, 1, 1), (0, 1, 3), (1, 2, 3), (-1, 0, 1), (0, 1, -1), (2, 1, 2)]
NAMES = {"month": "day", "day": "size", "size": "month"}
CHANGE = {"month": "era", "day": "date", "size": "width"}


def inverse(order):
    return tuple(order.index(number) for number in range(len(order)))


class RenumberingTest(Case):
    def test_examples(self):
        self.assertEqual(renumber_shape(SHAPE, ORDER), ((2, 3), (0,), (1,)))
        self.assertEqual(renumber_shape(((0, 1), (2,)), (2, 0, 1)), ((0, 2), (1,)))
        a, b, c, d = ("size", 0), ("size", 1), ("day", 0), ("day", 2)
        form = [((a, b), [((c,), [((d,), [])])]), ((b, a), [])]
        self.assertEqual(renumber_form(form, SHAPE, ORDER), form)
        self.assertEqual(renumber_form([((a, b), [((c,), [])])], ((0, 1), (2,)), (2, 0, 1)), [((b, a), [((c,), [])])])
        self.assertEqual(renumber_form([((a, b, c), [])], ((0, 1, 2),), (1, 2, 0)), [((c, a, b), [])])
        self.assertEqual(renumber_form([((a, b, c), [])], ((0, 1, 2),), (2, 0, 1)), [((b, c, a), [])])
        self.assertEqual(renumber_step(("nest", 1, (0, 2)), (2, 0, 1)), ("nest", 1, (1, 2)))
        self.assertEqual(renumber_step(("nest", 0, (0,)), (2, 0, 1)), ("nest", 0, (2,)))
        self.assertEqual(renumber_step(("unnest", 1), (2, 0, 1)), ("unnest", 1))

    def test_schemas(self):
        schema = Schema(sample_book(), ((0, 2), (1,)), ("day", "?", "month"), Rules((0,), (1,)))
        other = renumber_schema(schema, (1, 2, 0))
        self.assertEqual((other.shape, other.kinds), (((0, 1), (2,)), ("month", "day", "?")))
        self.assertEqual((other.rules.full, other.rules.parted), ((0,), (1,)))
        self.assertEqual(plain(other.book), plain(schema.book))

    def test_all_shapes_and_orders(self):
        for count in range(1, 5):
            kinds = ("day", "?", "month", "size")[:count]
            for shape, order in itertools.product(all_shapes(count), itertools.permutations(range(count))):
                schema = Schema(sample_book(), shape, kinds, Rules())
                wanted = tuple(tuple(sorted(order[column] for column in level)) for level in shape)
                other = renumber_schema(schema, order)
                self.assertEqual((renumber_shape(shape, order), other.shape), (wanted, wanted))
                self.assertEqual([other.kinds[order[column]] for column in range(count)], list(kinds))
                self.assertTrue(renumber_schema(other, inverse(order)).same(schema))
                for step in all_steps(shape):
                    changed = renumber_step(step, order)
                    self.assertEqual(plain_shape(wanted, changed), renumber_shape(plain_shape(shape, step), order))
                    self.assertEqual(renumber_step(changed, inverse(order)), step)

    def test_forms(self):
        choices = [[("day", 0), ("day", 1)], [("size", 0)], [("size", 1), ("month", 0)]]
        for shape in (((0, 1, 2),), ((0, 2), (1,)), ((1,), (0, 2)), ((2,), (0,), (1,))):
            for order in itertools.permutations(range(3)):
                other = renumber_shape(shape, order)
                for form in all_forms(shape, choices, 2)[::3]:
                    changed = renumber_form(form, shape, order)
                    self.check_leaves(form, shape, changed, other, order)
                    self.assertEqual(rules_of(changed, other).named(), rules_of(form, shape).named())
                    self.assertEqual(renumber_form(changed, other, inverse(order)), form)

    def check_leaves(self, form, shape, changed, other, order):
        before, after = outline_of(form), outline_of(changed)
        self.assertEqual(len(before), len(after))
        for (branch, path), (end_branch, end_path) in zip(before, after):
            self.assertEqual((end_branch, len(end_path)), (branch, len(path)))
            values, end_values = path_values(shape, path), path_values(other, end_path)
            self.assertEqual([end_values[order[column]] for column in range(3)], values)

    def test_no_orders(self):
        schema = Schema(sample_book(), ((0, 2), (1,)), ("day", "?", "month"), Rules())
        for order in NO_ORDERS:
            self.raises(InvalidOrder, renumber_shape, ((0, 2), (1,)), order)
            self.raises(InvalidOrder, renumber_shape, ((0, 1, 2),), order)
            self.raises(InvalidOrder, renumber_form, [], ((0, 2), (1,)), order)
            self.raises(InvalidOrder, renumber_form, [((("day", 0), ("day", 0)), [])], ((0, 2), (1,)), order)
            self.raises(InvalidOrder, renumber_schema, schema, order)
        self.raises(InvalidOrder, renumber_shape, ((0,),), (1,))
        self.raises(InvalidOrder, renumber_shape, ((0,),), (0, 1))

    def test_no_orders_for_steps(self):
        for order in ((0, 0), (1,), (0, 2), (-1, 0), (1, 2, 3), (0, 1, 1), (0, 1, 2, 2), (0, 1, 2, 4)):
            self.raises(InvalidOrder, renumber_step, ("nest", 0, (0,)), order)
            self.raises(InvalidOrder, renumber_step, ("unnest", 0), order)
        for columns in ((2,), (0, 2), (1, 3), (5,)):
            self.raises(InvalidOrder, renumber_step, ("nest", 0, columns), (1, 0))
        self.raises(InvalidOrder, renumber_step, ("nest", 0, (1,)), (0,))
        self.assertEqual(renumber_step(("nest", 3, (0, 1)), (1, 0)), ("nest", 3, (0, 1)))
        self.assertEqual(renumber_step(("unnest", 7), (0,)), ("unnest", 7))


class RenamingTest(Case):
    def test_books(self):
        self.assertEqual(plain(rename_book(sample_book(), CHANGE)), plain(Kindbook(
            [("era", 2, None, ()), ("date", 3, "era", (0, 0, 1)), ("width", 2, None, ())])))
        # All names are replaced at once.
        self.assertEqual(plain(rename_book(sample_book(), NAMES)), plain(Kindbook(
            [("day", 2, None, ()), ("size", 3, "day", (0, 0, 1)), ("month", 2, None, ())])))
        exchanged = {"month": "day", "day": "month", "size": "size"}
        self.assertEqual(plain(rename_book(sample_book(), exchanged)), plain(Kindbook(
            [("day", 2, None, ()), ("month", 3, "day", (0, 0, 1)), ("size", 2, None, ())])))

    def test_other_entries_are_ignored(self):
        for extra in ({"nope": "era"}, {"nope": "NO NAME"}, {"?": "day"}, {"other": "other"}):
            names = {**extra, **CHANGE}
            self.assertEqual(rename_book(sample_book(), names).names, ("era", "date", "width"))
            schema = Schema(sample_book(), ((0, 1),), ("?", "day"), Rules())
            self.assertEqual(rename_schema(schema, names).kinds, ("?", "date"))

    def test_books_that_cannot_be_renamed(self):
        cases = [
            ({}, InvalidOrder), ({"month": "a", "day": "b"}, InvalidOrder), ({"size": "a", "day": "b"}, InvalidOrder),
            ({"month": "a", "day": "b", "size": "a"}, InvalidOrder), ({"month": "a", "day": "a", "size": "b"}, InvalidOrder),
            ({"month": "a", "day": "b", "size": "B"}, InvalidName), ({"month": "", "day": "b", "size": "c"}, InvalidName),
            ({"month": "a", "day": "?", "size": "c"}, InvalidName), ({"month": "abcdefghi", "day": "b", "size": "c"}, InvalidName),
            # Two faults in one dict.
            ({"month": "A", "day": "A", "size": "c"}, InvalidOrder), ({"month": "A", "day": "b"}, InvalidOrder),
            ({"month": "A", "day": "b", "size": "b"}, InvalidOrder),
        ]
        schema = Schema(sample_book(), ((0,),), ("size",), Rules())
        for names, error in cases:
            self.raises(error, rename_book, sample_book(), names)
            self.raises(error, rename_schema, schema, names)

    def test_values(self):
        self.assertEqual(rename_value(("day", 2), NAMES), ("size", 2))
        self.assertEqual(rename_value(("size", 1), NAMES), ("month", 1))
        self.assertEqual(rename_value(("nope", 99), {"nope": "NO NAME"}), ("NO NAME", 99))
        self.raises(InvalidOrder, rename_value, ("nope", 0), NAMES)
        self.raises(InvalidOrder, rename_value, ("day", 0), {})

    def test_forms(self):
        form = [((("day", 2), ("size", 0)), [((("month", 1),), []), ((("day", 0),), [])]), ((("day", 0), ("size", 1)), [])]
        self.assertEqual(rename_form(form, NAMES), [
            ((("size", 2), ("month", 0)), [((("day", 1),), []), ((("size", 0),), [])]), ((("size", 0), ("month", 1)), [])])
        self.assertEqual(rename_form([], {}), [])
        self.assertEqual(rename_form(form, {"day": "a", "size": "a", "month": "a"})[1], ((("a", 0), ("a", 1)), []))
        for missing in ("day", "size", "month"):
            self.raises(InvalidOrder, rename_form, form, {name: "x" for name in NAMES if name != missing})

    def test_schemas(self):
        schema = Schema(sample_book(), ((0, 2), (1,)), ("day", "?", "month"), Rules((0,), (1,)))
        other = rename_schema(schema, NAMES)
        self.assertEqual((other.shape, other.kinds), (((0, 2), (1,)), ("size", "?", "day")))
        self.assertEqual((other.rules.full, other.rules.parted), ((0,), (1,)))
        self.assertEqual(plain(other.book), plain(rename_book(sample_book(), NAMES)))

    def test_there_and_back(self):
        choices = [[("day", 0), ("size", 1)], [("month", 0), ("month", 1)]]
        forms = all_forms(((0,), (1,)), choices, 2)
        schema = Schema(sample_book(), ((0,), (1,)), ("?", "month"), Rules((), (0,)))
        for names in (NAMES, CHANGE, {name: name for name in NAMES}):
            back = {new: old for old, new in names.items()}
            self.assertEqual(plain(rename_book(rename_book(sample_book(), names), back)), plain(sample_book()))
            self.assertEqual(plain(rename_schema(rename_schema(schema, names), back)), plain(schema))
            for form in forms:
                changed = rename_form(form, names)
                self.assertEqual(rename_form(changed, back), form)
                self.assertEqual([branch for branch, _ in outline_of(changed)], [branch for branch, _ in outline_of(form)])
                self.assertEqual(rules_of(changed, schema.shape).named(), rules_of(form, schema.shape).named())
                self.assertIs(rename_schema(schema, names).fits(changed), schema.fits(form))


class FreshnessTest(Case):
    def test_answers_and_arguments(self):
        form = [((("day", 2), ("size", 0)), [((("month", 1),), []), ((("day", 0),), [])])]
        schema = Schema(sample_book(), ((0, 2), (1,)), ("day", "?", "month"), Rules((0,)))
        self.unchanging(renumber_form, copy.deepcopy(form), ((0, 2), (1,)), (0, 1, 2))
        self.unchanging(renumber_form, copy.deepcopy(form), ((0, 2), (1,)), (2, 1, 0))
        self.unchanging(renumber_schema, schema, (2, 1, 0))
        self.unchanging(rename_form, copy.deepcopy(form), dict(NAMES))
        self.unchanging(rename_book, sample_book(), dict(NAMES))
        self.unchanging(rename_schema, schema, dict(NAMES))

    def test_arguments_after_an_error(self):
        form = [((("day", 2), ("size", 0)), []), ((("nope", 2), ("size", 0)), [])]
        self.raises_unchanged(InvalidOrder, rename_form, copy.deepcopy(form), dict(NAMES))
        self.raises_unchanged(InvalidOrder, renumber_form, copy.deepcopy(form), ((0, 1),), (0, 2))
        self.raises_unchanged(InvalidName, rename_book, sample_book(), {"month": "A", "day": "b", "size": "c"})
