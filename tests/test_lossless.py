"""What regroupings lose and what brings forms back (point 48)."""

import itertools

from formroads.errors import EmptyTable, NotJoined
from formroads.kinds import Kindbook
from formroads.lossless import back_regrouping, lost_pair, unreturned
from formroads.regroupings import Regrouping
from formroads.rules import Rules
from formroads.schemas import Schema
from formroads.scripts import regroupings_between
from tests.samples import (
    Case, all_forms, all_regroupings, all_rules, all_shapes, bit_forms, bit_schema, plain_cuts, plain_obeys,
    plain_outline, sample_book,
)

FLAT = Regrouping(((0,), (1,)), ((0, 1),), ())


def led(regrouping, form):
    """The form into which the regrouping turns a form, or None if it is refused."""
    try:
        return regrouping(form)
    except EmptyTable:
        return None


def brought_back(regrouping, back, form):
    return led(back, regrouping(form)) == form


class LostPairTest(Case):
    def check_pair(self, schema, regrouping, forms):
        """Compares with the forms of the schema's shape and kinds, of which there are all with two leaves."""
        results = [repr(led(regrouping, form)) for form in forms if schema.fits(form)]
        results = [result for result in results if result != "None"]
        pair = lost_pair(schema, regrouping)
        self.assertEqual(pair is None, len(results) == len(set(results)), (regrouping.before, regrouping.after))
        if pair is not None:
            self.assertIsInstance(pair, tuple)
            first, second = pair
            self.assertNotEqual(first, second)
            self.assertEqual(led(regrouping, first), led(regrouping, second))
            self.assertIsNotNone(led(regrouping, first))
            for form in pair:
                self.assertTrue(schema.fits(form))
                self.assertEqual(len(plain_outline(form)), 2)

    def test_two_columns(self):
        forms = {shape: bit_forms(shape, 3) for shape in all_shapes(2)}
        for regrouping in all_regroupings(2):
            for rules in all_rules(regrouping.before):
                self.check_pair(bit_schema(regrouping.before, rules), regrouping, forms[regrouping.before])

    def test_three_columns(self):
        forms = {shape: bit_forms(shape, 2) for shape in all_shapes(3)}
        for number, regrouping in enumerate(all_regroupings(3)[::2]):
            rules = list(all_rules(regrouping.before))
            schema = bit_schema(regrouping.before, rules[number % len(rules)])
            self.check_pair(schema, regrouping, forms[regrouping.before])

    def test_columns_with_one_value(self):
        book = Kindbook([("one", 1, None, ()), ("two", 2, None, ())])
        told = {"one": [("one", 0)], "two": [("two", 0), ("two", 1)]}
        for number, kinds in enumerate(itertools.product(told, repeat=3)):
            choices = [told[kind] for kind in kinds]
            forms = {shape: all_forms(shape, choices, 2) for shape in all_shapes(3)}
            for regrouping in all_regroupings(3)[number::16]:
                for rules in list(all_rules(regrouping.before))[number % 5::7]:
                    self.check_pair(Schema(book, regrouping.before, kinds, rules), regrouping, forms[regrouping.before])

    def test_other_kinds(self):
        schema = Schema(sample_book(), ((0,), (1,)), ("?", "day"), Rules((), (1,)))
        first, second = lost_pair(schema, FLAT)
        self.assertEqual(FLAT(first), FLAT(second))
        self.assertTrue(schema.fits(first) and schema.fits(second) and first != second)
        self.assertIsNone(lost_pair(schema, Regrouping.identity(((0,), (1,)))))

    def test_by_hand(self):
        self.assertIsNone(lost_pair(bit_schema(((0,), (1,)), Rules((), (0,))), FLAT))
        self.assertIsNotNone(lost_pair(bit_schema(((0,), (1,)), Rules((0,), (1,))), FLAT))
        self.assertIsNone(lost_pair(bit_schema(((0, 1),)), Regrouping(((0, 1),), ((0,), (1,)), (0,))))

    def test_not_joined(self):
        for schema in (bit_schema(((0, 1),)), bit_schema(((1,), (0,))), bit_schema(((0,),)), bit_schema(((0,), (1,), (2,)))):
            self.raises_unchanged(NotJoined, lost_pair, schema, FLAT)
            self.raises_unchanged(NotJoined, unreturned, schema, FLAT)


class BackRegroupingTest(Case):
    def test_all_regroupings(self):
        for regrouping in all_regroupings(3) + all_regroupings(2) + all_regroupings(1):
            self.check_back(regrouping)

    def test_four_columns(self):
        shapes = all_shapes(4)
        for before, after in itertools.product(shapes[::9], shapes[::7]):
            for regrouping in regroupings_between(before, after):
                self.check_back(regrouping)

    def check_back(self, regrouping):
        back = back_regrouping(regrouping)
        self.assertEqual((back.before, back.after), (regrouping.after, regrouping.before))
        for cut, depth in zip(plain_cuts(regrouping.before), back.depths):
            fitting = [
                s for s in range(len(regrouping.after)) if set(sum(regrouping.after[:s], ())) <= set(cut)]
            self.assertEqual(depth, max(fitting))

    def test_by_hand(self):
        shape = ((0,), (1,), (2,))
        self.assertEqual(back_regrouping(Regrouping(shape, ((1,), (0,), (2,)), (0, 2))).depths, (0, 2))
        self.assertEqual(back_regrouping(Regrouping(shape, ((0, 1, 2),), ())).depths, (0, 0))
        self.assertEqual(back_regrouping(Regrouping(((0, 1, 2),), shape, (0, 0))).depths, ())
        self.assertEqual(back_regrouping(Regrouping(shape, shape, (0, 0))).depths, (1, 2))


class UnreturnedTest(Case):
    def check_schema(self, schema, regrouping, forms, others):
        back = back_regrouping(regrouping)
        passing = [form for form in forms if schema.fits(form) and led(regrouping, form) is not None]
        for form in passing:
            obeys = all(plain_obeys(form, ("parted", depth)) for depth in regrouping.refused())
            self.assertEqual(brought_back(regrouping, back, form), obeys)
            self.assertIsNotNone(led(back, regrouping(form)))
            if not obeys:
                self.assertFalse(any(brought_back(regrouping, other, form) for other in others))
        form = unreturned(schema, regrouping)
        self.assertEqual(form is None, all(brought_back(regrouping, back, each) for each in passing))
        if form is not None:
            self.assertTrue(schema.fits(form))
            self.assertEqual(len(plain_outline(form)), 2)
            self.assertFalse(any(brought_back(regrouping, other, form) for other in others))

    def test_two_columns(self):
        forms = {shape: bit_forms(shape, 3) for shape in all_shapes(2)}
        for regrouping in all_regroupings(2):
            others = list(regroupings_between(regrouping.after, regrouping.before))
            for number, rules in enumerate(all_rules(regrouping.before)):
                found = forms[regrouping.before][number % 3::3]
                two_leaves = bit_forms(regrouping.before, 2)
                self.check_schema(bit_schema(regrouping.before, rules), regrouping, two_leaves + found, others)

    def test_three_columns(self):
        forms = {shape: bit_forms(shape, 2) for shape in all_shapes(3)}
        for number, regrouping in enumerate(all_regroupings(3)[::4]):
            rules = list(all_rules(regrouping.before))
            schema = bit_schema(regrouping.before, rules[(3 * number) % len(rules)])
            others = list(regroupings_between(regrouping.after, regrouping.before))
            self.check_schema(schema, regrouping, forms[regrouping.before], others)

    def test_by_hand(self):
        self.assertIsNone(unreturned(bit_schema(((0,), (1,)), Rules((), (0,))), FLAT))
        self.assertEqual(len(plain_outline(unreturned(bit_schema(((0,), (1,)), Rules((0,), (1,))), FLAT))), 2)
        self.assertIsNone(unreturned(bit_schema(((0,), (1,))), Regrouping.identity(((0,), (1,)))))

    def test_other_kinds(self):
        schema = Schema(sample_book(), ((0,), (1,)), ("?", "day"), Rules((0,), (1,)))
        form = unreturned(schema, FLAT)
        self.assertTrue(schema.fits(form))
        for other in regroupings_between(((0, 1),), ((0,), (1,))):
            self.assertFalse(brought_back(FLAT, other, form))


class FreshnessTest(Case):
    def test_answers(self):
        for regrouping in all_regroupings(2):
            schema = bit_schema(regrouping.before)
            self.unchanging(lost_pair, schema, regrouping)
            self.unchanging(unreturned, schema, regrouping)
            self.unchanging(back_regrouping, regrouping)
