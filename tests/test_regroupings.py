"""Regroupings (points 36, 37 and 38)."""

import copy
import itertools

from formroads.errors import EmptyTable, InvalidRegrouping, InvalidShape, InvalidStep, NotJoined
from formroads.regroupings import Regrouping
from tests.samples import (
    BIT, Case, all_forms, all_regroupings, all_scripts, all_shapes, bit_forms, plain, plain_cuts, plain_depths,
    plain_outline, plain_script, plain_shape,
)
from tests.test_shapes import NO_SHAPES

A, B = BIT
THREE = all_regroupings(3)


def plain_kept(regrouping):
    """The depths of hollow leaves that are kept, each with the depth that they get, by the words of point 37."""
    kept = {}
    for depth, columns in enumerate(plain_cuts(regrouping.before)):
        for end, cut in enumerate(plain_cuts(regrouping.after)):
            if cut == columns and regrouping.depths[end] == depth + 1:
                kept[depth] = end
    return kept


def plain_values(shape, path):
    values = [None] * sum(map(len, shape))
    for level, cells in zip(shape, path):
        for column, value in zip(level, cells):
            values[column] = value
    return values


def plain_result(regrouping, form):
    """The outline of the form after, leaf by leaf by the words of point 37, or None if a leaf is refused."""
    last = len(regrouping.before) - 1
    ends = {**plain_kept(regrouping), last: len(regrouping.after) - 1}
    outline, before = [], None
    for branch, path in plain_outline(form):
        if len(path) - 1 not in ends:
            return None
        values = plain_values(regrouping.before, path)
        numbers = [0]
        for number, cut in enumerate(plain_cuts(regrouping.after), start=1):
            if before and regrouping.depths[number - 1] <= branch and all(values[c] == before[c] for c in cut):
                numbers.append(number)
        levels = regrouping.after[:ends[len(path) - 1] + 1]
        outline.append((max(numbers), tuple(tuple(values[column] for column in level) for level in levels)))
        before = values
    return outline


class MakingTest(Case):
    def test_attributes(self):
        regrouping = Regrouping(((0,), (1, 2)), ((1,), (0,), (2,)), [0, 1])
        self.assertEqual(
            (regrouping.before, regrouping.after, regrouping.depths), (((0,), (1, 2)), ((1,), (0,), (2,)), (0, 1)))

    def test_shapes(self):
        for shape in NO_SHAPES:
            self.raises(InvalidShape, Regrouping, shape, ((0,),), ())
            self.raises(InvalidShape, Regrouping, ((0,),), shape, ())
            self.raises(InvalidShape, Regrouping, shape, shape, (7, 7))
            self.raises(InvalidShape, Regrouping, ((0,), (1,), (2,)), shape, (-1,))
            self.raises(InvalidShape, Regrouping.identity, shape)
            self.raises(InvalidShape, Regrouping.of, shape, [])
            self.raises(InvalidShape, Regrouping.of, shape, [("flatten", 0)])

    def test_numbers_of_columns(self):
        self.raises(InvalidRegrouping, Regrouping, ((0,),), ((0, 1),), ())
        self.raises(InvalidRegrouping, Regrouping, ((0, 1),), ((0,),), ())
        self.raises(InvalidRegrouping, Regrouping, ((0,), (1,), (2,)), ((0,), (1,)), (1,))
        self.raises(InvalidRegrouping, Regrouping, ((0,), (1,)), ((0,), (1,), (2,)), (1, 1))

    def test_all_depths(self):
        for count in (1, 2, 3):
            shapes = all_shapes(count)
            for before, after in itertools.product(shapes, shapes):
                valid = plain_depths(before, after)
                for length in range(len(after) + 1):
                    for depths in itertools.product(range(-1, len(before) + 2), repeat=length):
                        if depths in valid:
                            self.assertEqual(Regrouping(before, after, depths).depths, depths)
                        else:
                            self.raises(InvalidRegrouping, Regrouping, before, after, depths)

    def test_wrong_depths(self):
        before, after = ((0,), (1,), (2,)), ((0,), (2,), (1,))
        self.assertEqual(Regrouping(before, after, (1, 1)).depths, (1, 1))
        for depths in ((), (1,), (1, 1, 1), (1, 0), (-1, 0), (0, 3), (1, 2), (2, 2), (0, 2)):
            self.raises(InvalidRegrouping, Regrouping, before, after, depths)
        self.assertEqual(Regrouping(before, before, (1, 2)).depths, (1, 2))
        self.raises(InvalidRegrouping, Regrouping, before, before, (1, 3))

    def test_equality(self):
        for one, other in itertools.product(all_regroupings(2), repeat=2):
            equal = (one.before, one.after, one.depths) == (other.before, other.after, other.depths)
            self.assertIs(one == other, equal)
            self.assertIs(one != other, not equal)
        self.assertTrue(Regrouping(((0,), (1,)), ((0,), (1,)), [1]) == Regrouping(((0,), (1,)), ((0,), (1,)), (1,)))
        self.assertFalse(Regrouping(((0,), (1,)), ((0,), (1,)), [1]) == Regrouping(((0,), (1,)), ((0,), (1,)), [0]))


class LeavesTest(Case):
    def test_by_hand(self):
        before, after = ((0,), (1,)), ((1,), (0,))
        regrouping = Regrouping(before, after, (0,))
        form = [((A,), [((A,), []), ((B,), [])]), ((B,), [((B,), []), ((A,), [])])]
        self.assertEqual(regrouping(form), [
            ((A,), [((A,), [])]), ((B,), [((A,), []), ((B,), [])]), ((A,), [((B,), [])])])
        self.raises(EmptyTable, regrouping, [((A,), [])])

    def test_depths_tell_rows_that_are_shared(self):
        shape = ((0,), (1,))
        apart = [((A,), [((A,), [])]), ((A,), [((B,), [])]), ((A,), []), ((A,), [])]
        self.assertEqual(Regrouping(shape, shape, (1,))(apart), apart)
        together = [((A,), [((A,), []), ((B,), [])])]
        self.assertEqual(Regrouping(shape, shape, (0,))(apart[:2]), together)
        self.raises(EmptyTable, Regrouping(shape, shape, (0,)), apart)

    def test_refused(self):
        for regrouping in THREE:
            kept = plain_kept(regrouping)
            self.assertEqual(
                regrouping.refused(), tuple(depth for depth in range(len(regrouping.before) - 1) if depth not in kept))

    def test_refused_by_hand(self):
        before = ((0,), (1,), (2,))
        self.assertEqual(Regrouping.identity(before).refused(), ())
        self.assertEqual(Regrouping(before, ((0, 1, 2),), ()).refused(), (0, 1))
        self.assertEqual(Regrouping(before, before, (0, 2)).refused(), (0,))
        self.assertEqual(Regrouping(before, before, (1, 1)).refused(), (1,))
        self.assertEqual(Regrouping(before, ((0, 1), (2,)), (2,)).refused(), (0,))
        self.assertEqual(Regrouping(((0, 1, 2),), before, (0, 0)).refused(), ())

    def test_end_paths(self):
        values = [("bit", column) for column in range(3)]
        for regrouping in THREE:
            ends = {**plain_kept(regrouping), len(regrouping.before) - 1: len(regrouping.after) - 1}
            for depth in range(len(regrouping.before)):
                path = tuple(tuple(values[column] for column in level) for level in regrouping.before[:depth + 1])
                if depth in ends:
                    levels = regrouping.after[:ends[depth] + 1]
                    wanted = tuple(tuple(values[column] for column in level) for level in levels)
                    self.assertEqual(regrouping.end_path(path), wanted)
                else:
                    self.raises(EmptyTable, regrouping.end_path, path)

    def test_end_branches(self):
        for number, regrouping in enumerate(THREE):
            shape = regrouping.before
            depths = [depth for depth in range(len(shape)) if depth not in regrouping.refused()]
            paths = [
                tuple(tuple(values[column] for column in level) for level in shape[:depth + 1])
                for depth in depths for values in itertools.product((A, B), repeat=3)]
            for path, following in list(itertools.product(paths, paths))[number % 7::7]:
                for branch in range(min(len(path), len(following))):
                    if path[:branch] == following[:branch]:
                        self.check_branch(regrouping, path, following, branch)

    def check_branch(self, regrouping, path, following, branch):
        values, next_values = plain_values(regrouping.before, path), plain_values(regrouping.before, following)
        shared = [0]
        for number, cut in enumerate(plain_cuts(regrouping.after), start=1):
            if regrouping.depths[number - 1] <= branch and all(values[c] == next_values[c] for c in cut):
                shared.append(number)
        self.assertEqual(regrouping.end_branch(values, next_values, branch), max(shared))

    def test_small_forms(self):
        for number, regrouping in enumerate(THREE + all_regroupings(2)):
            forms = SMALL[regrouping.before]
            for form in forms[number % 19::19]:
                wanted = plain_result(regrouping, form)
                if wanted is None:
                    self.raises(EmptyTable, regrouping, form)
                else:
                    self.assertEqual(plain_outline(regrouping(form)), wanted)
            self.assertEqual(regrouping([]), [])

    def test_one_refused_leaf_among_others(self):
        regrouping = Regrouping(((0,), (1,)), ((0, 1),), ())
        good = ((A,), [((A,), []), ((B,), [])])
        self.assertEqual(regrouping([good]), [((A, A), []), ((A, B), [])])
        self.raises(EmptyTable, regrouping, [good, ((A,), [])])
        self.raises(EmptyTable, regrouping, [((A,), []), good])


SMALL = {shape: bit_forms(shape, 2) for count in (2, 3) for shape in all_shapes(count)}


class ScriptsTest(Case):
    def test_identity(self):
        for count in range(1, 5):
            for shape in all_shapes(count):
                identity = Regrouping.identity(shape)
                self.assertEqual(
                    (identity.before, identity.after, identity.depths), (shape, shape, tuple(range(1, len(shape)))))
                self.assertEqual(identity.refused(), ())
                self.assertTrue(Regrouping.of(shape, []) == identity)
        for shape in all_shapes(2):
            for form in SMALL[shape]:
                self.assertEqual(Regrouping.identity(shape)(form), form)

    def test_of_by_hand(self):
        shape = ((0,), (1, 2), (3,))
        cases = [
            ([("nest", 1, (2,))], ((0,), (1,), (2,), (3,)), (1, 1, 2)),
            ([("unnest", 0)], ((0, 1, 2), (3,)), (2,)),
            ([("unnest", 1)], ((0,), (1, 2, 3)), (1,)),
            ([("unnest", 0), ("nest", 0, (0, 2))], ((1,), (0, 2), (3,)), (0, 2)),
            ([("unnest", 1), ("nest", 1, (3,))], ((0,), (1, 2), (3,)), (1, 1)),
            ([("unnest", 1), ("nest", 1, (3,)), ("nest", 1, (1,))], ((0,), (2,), (1,), (3,)), (1, 1, 1)),
            ([("unnest", 0), ("unnest", 0)], ((0, 1, 2, 3),), ()),
        ]
        for steps, after, depths in cases:
            regrouping = Regrouping.of(shape, steps)
            self.assertEqual((regrouping.before, regrouping.after, regrouping.depths), (shape, after, depths))

    def test_steps_that_do_not_fit(self):
        self.raises(InvalidStep, Regrouping.of, ((0, 1),), [("unnest", 0)])
        self.raises(InvalidStep, Regrouping.of, ((0, 1),), [("nest", 0, (1,)), ("nest", 0, (0,))])
        self.raises(InvalidStep, Regrouping.of, ((0, 1),), [("flatten", 0)])
        self.raises(InvalidShape, Regrouping.of, ((1, 0),), [("flatten", 0)])

    def test_scripts_and_their_regroupings_do_the_same(self):
        for shape in all_shapes(2) + all_shapes(3):
            forms = SMALL[shape]
            for number, steps in enumerate(all_scripts(shape, 3)):
                regrouping = Regrouping.of(shape, steps)
                self.assertEqual(regrouping.before, shape)
                for form in forms[number % 23::23]:
                    self.do_the_same(regrouping, form, shape, steps)

    def test_three_leaves(self):
        for shape in (((0, 1),), ((0,), (1,)), ((1,), (0,))):
            forms = bit_forms(shape, 3)
            for steps in all_scripts(shape, 4):
                regrouping = Regrouping.of(shape, steps)
                for form in forms:
                    self.do_the_same(regrouping, form, shape, steps)

    def test_four_columns(self):
        shape = ((0,), (1, 3), (2,))
        forms = all_forms(shape, [[A], [A, B], [A], [A, B]], 2)
        for number, steps in enumerate(all_scripts(shape, 4)):
            regrouping = Regrouping.of(shape, steps)
            for form in forms[number % 29::29]:
                self.do_the_same(regrouping, form, shape, steps)

    def do_the_same(self, regrouping, form, shape, steps):
        wanted = plain_script(form, shape, steps)
        if wanted is None:
            self.raises(EmptyTable, regrouping, form)
        else:
            self.assertEqual(regrouping(form), wanted, (shape, steps))


class ThenTest(Case):
    def test_by_hand(self):
        first = Regrouping.of(((0, 1, 2),), [("nest", 0, (1, 2)), ("nest", 1, (2,))])
        second = Regrouping(((0,), (1,), (2,)), ((0, 1), (2,)), (2,))
        third = Regrouping(((0,), (1,), (2,)), ((1,), (0,), (2,)), (0, 2))
        self.assertEqual(first.then(second).depths, (0,))
        self.assertEqual(Regrouping.identity(second.before).then(third).depths, (0, 2))
        regrouping = Regrouping(((0, 1), (2,)), ((0,), (1,), (2,)), (0, 1)).then(third)
        self.assertEqual((regrouping.before, regrouping.after, regrouping.depths), (((0, 1), (2,)), third.after, (0, 1)))

    def test_scripts_one_behind_the_other(self):
        for shape in all_shapes(2) + all_shapes(3)[::2]:
            for steps in all_scripts(shape, 2):
                after = shape
                for step in steps:
                    after = plain_shape(after, step)
                for more in all_scripts(after, 2):
                    joined = Regrouping.of(shape, steps).then(Regrouping.of(after, more))
                    self.assertTrue(joined == Regrouping.of(shape, steps + more))

    def test_both_one_after_the_other(self):
        pairs = [(one, two) for one, two in itertools.product(THREE[::5], THREE[::7]) if one.after == two.before]
        for number, (first, second) in enumerate(pairs):
            joined = first.then(second)
            for form in SMALL[first.before][number % 17::17]:
                self.assertEqual(self.outcome(joined, [form]), self.outcome(second, self.outcome(first, [form])))

    def outcome(self, regrouping, forms):
        """The form after in a list, or no form if it is refused."""
        try:
            return [regrouping(form) for form in forms]
        except EmptyTable:
            return []

    def test_not_joined(self):
        for first, second in itertools.product(all_regroupings(2), repeat=2):
            if first.after == second.before:
                joined = first.then(second)
                self.assertEqual((joined.before, joined.after), (first.before, second.after))
            else:
                self.raises(NotJoined, first.then, second)
        self.raises(NotJoined, Regrouping.identity(((0,),)).then, Regrouping.identity(((0, 1),)))


class FreshnessTest(Case):
    def test_answers_and_arguments(self):
        depths = [0, 1]
        regrouping = Regrouping(((0,), (1, 2)), ((1,), (0,), (2,)), depths)
        depths[0] = 1
        self.assertEqual(regrouping.depths, (0, 1))
        form = [((A,), [((A, B), []), ((B, B), [])])]
        told = plain(regrouping)
        self.unchanging(regrouping, copy.deepcopy(form))
        self.unchanging(Regrouping.identity(((0,), (1, 2))), copy.deepcopy(form) + [((A,), [])])
        self.unchanging(regrouping.refused)
        self.unchanging(regrouping.end_path, ((A,), (B, A)))
        self.unchanging(regrouping.end_branch, [A, A, A], [A, A, B], 1)
        self.unchanging(regrouping.then, Regrouping.identity(regrouping.after))
        self.unchanging(Regrouping.of, ((0,), (1, 2)), [("nest", 1, (1,)), ("unnest", 0)])
        self.assertEqual(plain(regrouping), told)

    def test_arguments_after_an_error(self):
        regrouping = Regrouping(((0,), (1,)), ((0, 1),), ())
        self.raises_unchanged(EmptyTable, regrouping, [((A,), [((B,), [])]), ((A,), [])])
        self.raises_unchanged(InvalidStep, Regrouping.of, ((0, 1),), [("nest", 0, (1,)), ("nest", 0, (0,))])
        self.raises_unchanged(InvalidRegrouping, Regrouping, ((0, 1),), ((0,), (1,)), [1])
