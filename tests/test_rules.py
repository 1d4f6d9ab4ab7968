"""Rules (points 15 and 16)."""

import copy
import itertools

from formroads.rules import Rules, rules_of
from tests.samples import Case, all_rules, all_subsets, bit_forms, plain_obeys

A, B, C = ("size", 0), ("size", 1), ("size", 2)


def described(rules):
    return (rules.full, rules.parted)


class RulesTest(Case):
    def test_order_and_duplicates(self):
        self.assertEqual(described(Rules()), ((), ()))
        self.assertEqual(described(Rules((2, 0, 2, 1, 0), (3, 3, 1))), ((0, 1, 2), (1, 3)))
        self.assertEqual(described(Rules((1,))), ((1,), ()))
        self.assertEqual(described(Rules(parted=(1, 0))), ((), (0, 1)))
        self.assertEqual(described(Rules(full=(1, 0))), ((0, 1), ()))
        self.assertEqual(described(Rules((9, 1, 16, 8, 0, 24), (32, 3, 10, 3))), ((0, 1, 8, 9, 16, 24), (3, 10, 32)))
        for full in itertools.permutations(range(3)):
            self.assertEqual(described(Rules(full, full + full)), ((0, 1, 2), (0, 1, 2)))

    def test_sets(self):
        sets = [(full, parted) for full in all_subsets(range(2)) for parted in all_subsets(range(3))]
        for (full, parted), (full_two, parted_two) in itertools.product(sets, sets):
            one, other = Rules(full, parted), Rules(full_two, parted_two)
            both = (set(full) | set(full_two), set(parted) | set(parted_two))
            shared = (set(full) & set(full_two), set(parted) & set(parted_two))
            self.assertEqual(described(one | other), tuple(tuple(sorted(levels)) for levels in both))
            self.assertEqual(described(one & other), tuple(tuple(sorted(levels)) for levels in shared))
            self.assertIsInstance(one | other, Rules)
            self.assertIsInstance(one & other, Rules)
            self.assertIs(one == other, (full, parted) == (full_two, parted_two))
            self.assertIs(one != other, (full, parted) != (full_two, parted_two))
            self.assertIs(one.within(other), set(full) <= set(full_two) and set(parted) <= set(parted_two))
            self.assertEqual((described(one), described(other)), ((full, parted), (full_two, parted_two)))

    def test_full_and_parted_are_not_mixed(self):
        self.assertEqual(described(Rules((0,), (1,)) | Rules((2,), (3,))), ((0, 2), (1, 3)))
        self.assertEqual(described(Rules((0, 1), (1,)) & Rules((1,), (0, 2))), ((1,), ()))
        self.assertFalse(Rules((1,), ()) == Rules((), (1,)))
        self.assertIs(Rules((1,)).within(Rules((), (1,))), False)

    def test_in(self):
        rules = Rules((0, 2), (1,))
        for word, levels in (("full", (0, 2)), ("parted", (1,))):
            for level in range(-1, 5):
                self.assertIs((word, level) in rules, level in levels)
        self.assertIs(("full", 0) in Rules(), False)

    def test_named(self):
        self.assertEqual(Rules().named(), [])
        self.assertEqual(Rules((2, 0), (1, 0)).named(), [("full", 0), ("full", 2), ("parted", 0), ("parted", 1)])

    def test_within_itself_and_nothing(self):
        rules = Rules((0, 1), (2,))
        self.assertIs(rules.within(rules), True)
        self.assertIs(Rules().within(rules), True)
        self.assertIs(rules.within(Rules()), False)
        self.assertIs(Rules().within(Rules()), True)


class RulesOfTest(Case):
    def test_examples(self):
        shape = ((0,), (1,))
        cases = [
            ([], ((0,), (0, 1))),
            ([((A,), [])], ((), (0, 1))),
            ([((A,), [((B,), [])])], ((0,), (0, 1))),
            ([((A,), [((B,), []), ((B,), [])])], ((0,), (0,))),
            ([((A,), [((B,), [])]), ((A,), [((B,), [])])], ((0,), (1,))),
            ([((A,), [((B,), [])]), ((B,), [((B,), [])])], ((0,), (0, 1))),
            ([((A,), []), ((A,), [])], ((), (1,))),
            ([((A,), []), ((A,), [((B,), [])])], ((), (1,))),
            ([((A,), []), ((B,), []), ((A,), [])], ((), (0, 1))),
            ([((A,), [((B,), []), ((C,), []), ((B,), [])]), ((C,), [((B,), [])])], ((0,), (0, 1))),
        ]
        for form, rules in cases:
            self.assertEqual(described(rules_of(form, shape)), rules, form)

    def test_one_level(self):
        self.assertEqual(described(rules_of([((A,), []), ((A,), [])], ((0,),))), ((), ()))
        self.assertEqual(described(rules_of([((A,), []), ((B,), [])], ((0,),))), ((), (0,)))

    def test_all_cells_of_a_row_count(self):
        shape = ((0, 1),)
        self.assertEqual(described(rules_of([((A, B), []), ((A, C), [])], shape)), ((), (0,)))
        self.assertEqual(described(rules_of([((A, B), []), ((C, B), [])], shape)), ((), (0,)))
        self.assertEqual(described(rules_of([((A, B), []), ((A, B), [])], shape)), ((), ()))

    def test_the_empty_form_obeys_all_rules(self):
        for shape in (((0,),), ((0,), (1,)), ((0,), (2,), (1,)), ((3,), (2,), (1,), (0,))):
            last = len(shape) - 1
            self.assertEqual(described(rules_of([], shape)), (tuple(range(last)), tuple(range(last + 1))))

    def test_small_forms(self):
        for shape, most in ((((0,),), 4), (((0,), (1,)), 3), (((1,), (0,), (2,)), 2), (((0, 1),), 3)):
            every = list(all_rules(shape))[-1].named()
            for form in bit_forms(shape, most):
                obeyed = [rule for rule in every if plain_obeys(form, rule)]
                self.assertEqual(rules_of(form, shape).named(), obeyed, form)


class FreshnessTest(Case):
    def test_answers_and_arguments(self):
        rules = Rules((1, 0), (2,))
        self.unchanging(rules.named)
        self.unchanging(rules.within, Rules((0,)))
        self.assertEqual(described(rules), ((0, 1), (2,)))
        for form in bit_forms(((0,), (1,)), 2)[::5]:
            self.unchanging(rules_of, copy.deepcopy(form), ((0,), (1,)))
