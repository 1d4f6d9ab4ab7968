"""The choices of branches (points 41 to 44)."""

import copy
import itertools

from formroads.choices import branch_choices, leaf_choices, possible_branches, start_path
from formroads.errors import EmptyTable, InvalidForm, Unreached
from formroads.notecodes import note_sizes
from formroads.regroupings import Regrouping
from formroads.rules import Rules
from tests.samples import (
    BIT, Case, all_forms, all_regroupings, all_rules, all_shapes, all_subsets, bit_forms, plain_obeys, plain_outline,
)
from tests.test_regroupings import plain_kept, plain_values

A, B = BIT
C = ("bit", 2)


class PossibleBranchesTest(Case):
    def test_by_hand(self):
        path, same, other = ((A,), (B,)), ((A,), (B,)), ((A,), (A,))
        self.assertEqual(possible_branches((), path, same), [0, 1])
        self.assertEqual(possible_branches((0,), path, same), [1])
        self.assertEqual(possible_branches((1,), path, same), [0])
        self.assertEqual(possible_branches((0, 1), path, same), [])
        self.assertEqual(possible_branches((0, 1), path, other), [1])
        self.assertEqual(possible_branches((), path, ((B,), (B,))), [0])
        self.assertEqual(possible_branches((), path, ((A,),)), [0])
        self.assertEqual(possible_branches((0,), path, ((A,),)), [])
        self.assertEqual(possible_branches((), ((A,),), path), [0])
        self.assertEqual(possible_branches((2, 3), path, same), [0, 1])

    def test_all_short_paths(self):
        paths = [path for size in (1, 2, 3) for path in itertools.product(((A,), (B,)), repeat=size)]
        for path, following in itertools.product(paths, paths):
            for parted in all_subsets(range(3)):
                wanted = []
                for branch in range(min(len(path), len(following))):
                    if path[:branch] == following[:branch] and not (branch in parted and path[branch] == following[branch]):
                        wanted.append(branch)
                self.assertEqual(possible_branches(parted, path, following), wanted)


class StartPathTest(Case):
    def test_by_hand(self):
        regrouping = Regrouping(((0,), (1,), (2,)), ((0, 1), (2,)), (2,))
        self.assertEqual(start_path(regrouping, ((A, B), (C,))), ((A,), (B,), (C,)))
        self.assertEqual(start_path(regrouping, ((A, B),)), ((A,), (B,)))
        self.raises(Unreached, start_path, Regrouping(((0,), (1,), (2,)), ((0, 1), (2,)), (1,)), ((A, B),))
        self.raises(Unreached, start_path, Regrouping(((0,), (1,), (2,)), ((0, 2), (1,)), (0,)), ((A, B),))
        self.raises(Unreached, start_path, Regrouping(((0, 1),), ((0,), (1,)), (0,)), ((A,),))

    def test_all_paths(self):
        values = [("bit", column) for column in range(3)]
        for regrouping in all_regroupings(3):
            starts = {end: depth for depth, end in plain_kept(regrouping).items()}
            starts[len(regrouping.after) - 1] = len(regrouping.before) - 1
            for end in range(len(regrouping.after)):
                path = tuple(tuple(values[column] for column in level) for level in regrouping.after[:end + 1])
                if end in starts:
                    levels = regrouping.before[:starts[end] + 1]
                    wanted = tuple(tuple(values[column] for column in level) for level in levels)
                    self.assertEqual(start_path(regrouping, path), wanted)
                    self.assertEqual(regrouping.end_path(wanted), path)
                else:
                    self.raises(Unreached, start_path, regrouping, path)


class BranchChoicesTest(Case):
    def test_by_hand(self):
        shape = ((0,), (1,), (2,))
        path, same = ((A,), (B,), (C,)), ((A,), (B,), (C,))
        flat = Regrouping(shape, ((0, 1, 2),), ())
        self.assertEqual(branch_choices(flat, (), path, same, 0), [0, 1, 2])
        self.assertEqual(branch_choices(flat, (), path, same, 1), [])
        self.assertEqual(branch_choices(flat, (1,), path, same, 0), [0, 2])
        half = Regrouping(shape, ((0, 1), (2,)), (1,))
        self.assertEqual(branch_choices(half, (), path, same, 0), [0])
        self.assertEqual(branch_choices(half, (), path, same, 1), [1, 2])
        self.assertEqual(branch_choices(half, (0,), path, same, 0), [])

    def test_all_branches_are_shared_out(self):
        lists = list(itertools.product((A, B), repeat=3))
        for number, regrouping in enumerate(all_regroupings(3)[::4]):
            shape = regrouping.before
            depths = [depth for depth in range(len(shape)) if depth not in regrouping.refused()]
            for depth, next_depth in itertools.product(depths, depths):
                for values, next_values in list(itertools.product(lists, lists))[number % 5::5]:
                    path = tuple(tuple(values[c] for c in level) for level in shape[:depth + 1])
                    following = tuple(tuple(next_values[c] for c in level) for level in shape[:next_depth + 1])
                    parted = ((), (0,), (1,), (0, 2))[number % 4]
                    self.check_shares(regrouping, parted, path, following)

    def check_shares(self, regrouping, parted, path, following):
        shares = [[] for _ in regrouping.after]
        values, next_values = plain_values(regrouping.before, path), plain_values(regrouping.before, following)
        for branch in possible_branches(parted, path, following):
            shares[regrouping.end_branch(values, next_values, branch)].append(branch)
        for end, wanted in enumerate(shares):
            self.assertEqual(branch_choices(regrouping, parted, path, following, end), wanted)


class LeafChoicesTest(Case):
    def test_by_hand(self):
        regrouping = Regrouping(((0,), (1,)), ((0, 1),), ())
        result = [((A, A), []), ((A, B), []), ((B, B), []), ((B, B), [])]
        paths = [((A,), (A,)), ((A,), (B,)), ((B,), (B,)), ((B,), (B,))]
        self.assertEqual(leaf_choices(regrouping, Rules(), result), list(zip(paths, ([0], [0, 1], [0], [0, 1]))))
        self.assertEqual(leaf_choices(regrouping, Rules((), (0,)), result), list(zip(paths, ([0], [1], [0], [1]))))
        self.assertEqual(leaf_choices(regrouping, Rules((), (1,)), result), list(zip(paths, ([0], [0, 1], [0], [0]))))
        self.raises(Unreached, leaf_choices, regrouping, Rules((), (0, 1)), result)
        # Full levels do not matter here.
        self.assertEqual(leaf_choices(regrouping, Rules((0,)), result), leaf_choices(regrouping, Rules(), result))
        self.assertEqual(leaf_choices(regrouping, Rules(), []), [])

    def test_all_start_forms(self):
        """The choices of a leaf are the branches that it has in the start forms that lead to the result."""
        for count, most, step in ((2, 3, 1), (3, 2, 11)):
            forms = {shape: bit_forms(shape, most) for shape in all_shapes(count)}
            for number, regrouping in enumerate(all_regroupings(count)):
                rules = list(all_rules(regrouping.before))
                self.check_results(regrouping, rules[number % len(rules)], forms, step)
                if count == 2:
                    for other in rules:
                        self.check_results(regrouping, other, forms, step)

    def check_results(self, regrouping, rules, forms, step):
        found = self.results(regrouping, rules, forms[regrouping.before])
        for result in forms[regrouping.after][::step]:
            told = found.get(repr(result))
            if told is None:
                self.raises(Unreached, leaf_choices, regrouping, rules, result)
                self.raises(Unreached, note_sizes, regrouping, rules, result)
            else:
                wanted = [(path, sorted(branches)) for path, branches in told]
                self.assertEqual(leaf_choices(regrouping, rules, result), wanted)
                self.assertEqual(
                    note_sizes(regrouping, rules, result), [len(branches) for _, branches in wanted if len(branches) > 1])

    def results(self, regrouping, rules, forms):
        """For each result the paths of the leaves of its start forms, each with the set of branches."""
        found = {}
        for form in forms:
            if not all(plain_obeys(form, ("parted", level)) for level in rules.parted):
                continue
            try:
                result = regrouping(form)
            except EmptyTable:
                continue
            outline = plain_outline(form)
            leaves = found.setdefault(repr(result), [(path, set()) for _, path in outline])
            for (branch, path), (known, branches) in zip(outline, leaves):
                self.assertEqual(path, known)
                branches.add(branch)
        return found

    def test_rows_that_do_not_fit(self):
        regrouping = Regrouping(((0,), (1,)), ((0, 1),), ())
        for result in ([((A,), [])], [((A, A, A), [])], [((A, A), [((A,), [])])], [((A, A), []), ((), [])]):
            self.raises(InvalidForm, leaf_choices, regrouping, Rules(), result)
            self.raises(InvalidForm, note_sizes, regrouping, Rules(), result)

    def test_the_first_error(self):
        # The first leaf has no start path, and a later row does not fit.
        regrouping = Regrouping(((0, 1),), ((0,), (1,)), (0,))
        self.raises(Unreached, leaf_choices, regrouping, Rules(), [((A,), [])])
        self.raises(InvalidForm, leaf_choices, regrouping, Rules(), [((A,), []), ((A, A), [])])
        self.raises(InvalidForm, note_sizes, regrouping, Rules(), [((A,), []), ((A, A), [])])

    def test_hollow_leaves(self):
        shape = ((0,), (1,))
        keeps, joins = Regrouping(shape, shape, (1,)), Regrouping(shape, shape, (0,))
        result = [((A,), []), ((A,), []), ((A,), [((B,), [])])]
        self.assertEqual(leaf_choices(keeps, Rules(), result), [(((A,),), [0]), (((A,),), [0]), (((A,), (B,)), [0])])
        self.raises(Unreached, leaf_choices, joins, Rules(), result)
        self.raises(Unreached, leaf_choices, keeps, Rules((), (0,)), result)

    def test_four_columns(self):
        before, after = ((0,), (1,), (2, 3)), ((1,), (0, 2), (3,))
        regrouping = Regrouping(before, after, (0, 0))
        forms = {
            before: all_forms(before, [[A, B], [A], [A, B], [A]], 2), after: all_forms(after, [[A, B], [A], [A, B], [A]], 2)}
        for rules in (Rules(), Rules((), (0,)), Rules((), (1,)), Rules((), (0, 1))):
            self.check_results(regrouping, rules, forms, 3)


class FreshnessTest(Case):
    def test_answers_and_arguments(self):
        regrouping = Regrouping(((0,), (1,)), ((0, 1),), ())
        result = [((A, A), []), ((A, B), []), ((A, B), [])]
        self.unchanging(leaf_choices, regrouping, Rules(), copy.deepcopy(result))
        self.unchanging(note_sizes, regrouping, Rules(), copy.deepcopy(result))
        self.unchanging(possible_branches, (1,), ((A,), (A,)), ((A,), (B,)))
        self.unchanging(branch_choices, regrouping, (), ((A,), (A,)), ((A,), (B,)), 0)
        self.unchanging(start_path, regrouping, ((A, B),))
        self.raises_unchanged(Unreached, leaf_choices, regrouping, Rules((), (0, 1)), copy.deepcopy(result))
        self.raises_unchanged(InvalidForm, leaf_choices, regrouping, Rules(), [((A,), [])])
