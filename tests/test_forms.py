"""Forms, outlines and rows (points 11 to 14)."""

import copy
import itertools

from formroads.errors import InvalidForm
from formroads.forms import check_form, check_outline, form_of, form_of_rows, outline_of, rows_of
from tests.samples import Case, all_shapes, bit_forms, plain_outline, plain_rows

A, B, C = ("size", 0), ("size", 1), ("size", 2)
EXAMPLE = [((A,), [((B,), []), ((C,), [])]), ((A,), []), ((B,), [((B,), [])])]
OUTLINE = [(0, ((A,), (B,))), (1, ((A,), (C,))), (0, ((A,),)), (0, ((B,), (B,)))]
ROWS = [(0, (A,)), (1, (B,)), (1, (C,)), (0, (A,)), (0, (B,)), (1, (B,))]
SHAPES = [((0,),), ((0,), (1,)), ((1,), (0,), (2,)), ((0, 2), (1,))]
FORMS = [form for shape in SHAPES for form in bit_forms(shape, 2)]


class OutlineTest(Case):
    def test_example(self):
        self.assertEqual(outline_of(EXAMPLE), OUTLINE)
        self.assertEqual(form_of(OUTLINE), EXAMPLE)
        self.assertIsNone(check_outline(OUTLINE))

    def test_empty_form(self):
        self.assertEqual(outline_of([]), [])
        self.assertEqual(form_of([]), [])
        self.assertIsNone(check_outline([]))

    def test_equal_rows_are_not_the_same_row(self):
        twice = [((A,), [((B,), [])]), ((A,), [((B,), [])])]
        once = [((A,), [((B,), []), ((B,), [])])]
        self.assertEqual([branch for branch, _ in outline_of(twice)], [0, 0])
        self.assertEqual([branch for branch, _ in outline_of(once)], [0, 1])
        self.assertEqual(form_of(outline_of(twice)), twice)
        self.assertEqual(form_of(outline_of(once)), once)

    def test_hollow_leaves(self):
        form = [((A,), []), ((A,), [((B,), []), ((B,), [((C,), [])]), ((C,), [])])]
        self.assertEqual(outline_of(form), [
            (0, ((A,),)), (0, ((A,), (B,))), (1, ((A,), (B,), (C,))), (1, ((A,), (C,)))])

    def test_small_forms(self):
        for form in FORMS:
            outline = plain_outline(form)
            self.assertEqual(outline_of(form), outline)
            self.assertEqual(form_of(outline), form)
            self.assertIsNone(check_outline(outline))

    def test_three_leaves(self):
        for form in bit_forms(((0,), (1,)), 3):
            self.assertEqual(outline_of(form), plain_outline(form))
            self.assertEqual(form_of(plain_outline(form)), form)

    def test_five_levels(self):
        path = ((A,), (B,), (C,), (A,), (B,))
        outline = [(0, path), (4, path), (2, path[:3]), (0, path[:1])]
        self.assertEqual(outline_of(form_of(outline)), outline)

    def test_every_list_of_two_leaves(self):
        paths = [path for size in range(4) for path in itertools.product(((A,), (B,)), repeat=size)]
        leaves = [(branch, path) for branch in range(-1, 4) for path in paths]
        for leaf in leaves:
            self.check_list([leaf], leaf[0] == 0 and len(leaf[1]) > 0)
        firsts = [leaf for leaf in leaves if leaf[0] in (0, 1)]
        for (first, path), (branch, following) in itertools.product(firsts, leaves):
            valid = first == 0 and len(path) > 0 and len(following) > 0
            valid = valid and 0 <= branch <= len(path) - 1 and branch <= len(following) - 1
            self.check_list([(first, path), (branch, following)], valid and path[:branch] == following[:branch])

    def check_list(self, outline, valid):
        if valid:
            self.assertIsNone(check_outline(outline))
            self.assertEqual(plain_outline(form_of(outline)), outline)
        else:
            self.raises(InvalidForm, check_outline, outline)
            self.raises(InvalidForm, form_of, outline)

    def test_a_fault_behind_good_leaves(self):
        for leaf in ((0, ()), (2, ((B,), (B,))), (-1, ((B,), (B,))), (1, ((A,), (B,))), (3, ((B,), (B,), (A,), (A,)))):
            self.check_list(OUTLINE + [leaf], False)
        self.check_list(OUTLINE + [(1, ((B,), (B,)))], True)
        self.check_list(OUTLINE + [(1, ((B,), (B,), (C,)))], True)
        # The branch counts rows shared with the leaf directly before, not with an earlier one.
        self.check_list([(0, ((A,), (B,))), (0, ((B,),)), (1, ((A,), (B,)))], False)


class RowsTest(Case):
    def test_example(self):
        self.assertEqual(rows_of(EXAMPLE), ROWS)
        self.assertEqual(form_of_rows(ROWS), EXAMPLE)
        self.assertEqual(rows_of([]), [])
        self.assertEqual(form_of_rows([]), [])

    def test_small_forms(self):
        for form in FORMS:
            rows = plain_rows(form)
            self.assertEqual(rows_of(form), rows)
            self.assertEqual(form_of_rows(rows), form)

    def test_every_list_of_levels(self):
        for length in range(5):
            for levels in itertools.product(range(-1, 4), repeat=length):
                rows = [(level, (("size", number),)) for number, level in enumerate(levels)]
                valid = all(0 <= level <= before + 1 for before, level in zip((-1,) + levels, levels))
                if valid:
                    self.assertEqual(plain_rows(form_of_rows(rows)), rows)
                else:
                    self.raises(InvalidForm, form_of_rows, rows)


class CheckFormTest(Case):
    def test_forms_of_the_shape(self):
        for shape in SHAPES:
            for form in bit_forms(shape, 2):
                self.assertIsNone(check_form(form, shape))

    def test_forms_of_other_shapes(self):
        widths = {}
        for shape in all_shapes(3) + all_shapes(2):
            widths.setdefault(tuple(len(level) for level in shape), shape)
        for shape in widths.values():
            for other in widths.values():
                for form in bit_forms(shape, 1) + bit_forms(shape, 2)[-3:]:
                    fits = all(
                        level < len(other) and len(cells) == len(other[level]) for level, cells in plain_rows(form))
                    if fits:
                        self.assertIsNone(check_form(form, other))
                    else:
                        self.raises(InvalidForm, check_form, form, other)

    def test_wrong_rows(self):
        shape = ((0, 2), (1,))
        good = ((A, B), [((C,), [])])
        self.assertIsNone(check_form([good], shape))
        self.assertIsNone(check_form([], shape))
        self.assertIsNone(check_form([((A, B), [])], shape))
        for row in (((A,), []), ((A, B, C), []), ((), []), ((A, B), [((A, B), [])]), ((A, B), [((), [])]),
                    ((A, B), [((C,), [((C,), [])])]), ((A, B), [((C,), []), ((C, C), [])])):
            self.raises(InvalidForm, check_form, [row], shape)
            self.raises(InvalidForm, check_form, [good, good, row], shape)
            self.raises(InvalidForm, check_form, [row, good], shape)
        self.raises(InvalidForm, check_form, [((A,), [((A,), [])])], ((0,),))

    def test_values_are_not_asked(self):
        self.assertIsNone(check_form([((("nope", 9),), [])], ((0,),)))


class FreshnessTest(Case):
    def test_nothing_is_shared(self):
        for form in FORMS[::7] + [EXAMPLE]:
            form = copy.deepcopy(form)
            self.unchanging(outline_of, form)
            self.unchanging(rows_of, form)
            self.unchanging(check_outline, plain_outline(form))
            self.unchanging(form_of, plain_outline(form))
            self.unchanging(form_of_rows, plain_rows(form))
        self.unchanging(check_form, copy.deepcopy(EXAMPLE), ((0,), (1,)))

    def test_arguments_after_an_error(self):
        self.raises_unchanged(InvalidForm, form_of, OUTLINE + [(3, ((A,),))])
        self.raises_unchanged(InvalidForm, check_outline, OUTLINE + [(0, ())])
        self.raises_unchanged(InvalidForm, form_of_rows, ROWS + [(4, (A,))])
        self.raises_unchanged(InvalidForm, check_form, copy.deepcopy(EXAMPLE), ((0,),))
