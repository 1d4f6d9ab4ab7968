"""Lists of forms (points 26 and 27)."""

import copy
import itertools
import random

from formroads.errors import InvalidForm, TooMany
from formroads.kinds import Kindbook
from formroads.listing import count_forms, form_number, numbered_form, walk_forms
from formroads.rules import Rules
from formroads.schemas import Schema
from tests.samples import (
    Case, all_forms, all_rules, bit_book, bit_schema, plain_key, plain_obeys, plain_outline, sample_book, spoil,
)

BIG = Kindbook([(name, 4, None, ()) for name in ("a", "b", "c", "d", "e")])
LONE = Kindbook([("one", 1, None, ()), ("two", 2, "one", (0, 0))])


def plain_list(schema, most):
    """The forms of point 27, found among all forms and sorted by the words of point 26."""
    listed = [schema.choices(column) for column in range(len(schema.kinds))]
    forms = [
        form for form in all_forms(schema.shape, listed, most)
        if all(plain_obeys(form, rule) for rule in schema.rules.named())
    ]
    return sorted(forms, key=lambda form: plain_key(plain_outline(form), listed, schema.shape))


def small_schemas():
    """Schemas with a number of leaves for which their forms are not too many."""
    for rules in all_rules(((0,),)):
        yield bit_schema(((0,),), rules), 4
        yield Schema(sample_book(), ((0,),), ("?",), rules), 3
        yield Schema(LONE, ((0,),), ("one",), rules), 4
    for rules in all_rules(((0,), (1,))):
        yield bit_schema(((0,), (1,)), rules), 3
        yield Schema(LONE, ((1,), (0,)), ("one", "?"), rules), 3
        yield Schema(sample_book(), ((1,), (0,)), ("day", "month"), rules), 2
    for rules in all_rules(((0, 1),)):
        yield bit_schema(((0, 1),), rules), 3
    for rules in all_rules(((0,), (1,), (2,))):
        yield Schema(LONE, ((2,), (0,), (1,)), ("two", "one", "one"), rules), 3
        yield bit_schema(((1,), (2,), (0,)), rules), 1
    for rules in (Rules(), Rules((0,), (1,)), Rules((), (0,))):
        yield Schema(sample_book(), ((0, 2), (1,)), ("month", "size", "day"), rules), 2
        yield Schema(sample_book(), ((1,), (0, 2)), ("month", "size", "month"), rules), 2
        yield bit_schema(((0,), (1,), (2,)), rules), 2
        yield Schema(LONE, ((0,), (1,), (2,), (3,)), ("one", "one", "one", "one"), rules), 3


class SmallListsTest(Case):
    def test_all_agree(self):
        for schema, most in small_schemas():
            wanted = plain_list(schema, most)
            self.assertEqual(list(walk_forms(schema, most)), wanted)
            self.assertEqual(count_forms(schema, most), len(wanted))
            step = 1 + len(wanted) // 60
            for number in list(range(0, len(wanted), step)) + [len(wanted) - 1]:
                self.assertEqual(form_number(schema, most, wanted[number]), number)
                self.assertEqual(numbered_form(schema, most, number), wanted[number])
            for number in (len(wanted), len(wanted) + 1, len(wanted) * 2 + 5):
                self.raises(TooMany, numbered_form, schema, most, number)

    def test_fewer_leaves(self):
        schema = bit_schema(((0,), (1,)), Rules((), (1,)))
        for most in range(4):
            wanted = plain_list(schema, most)
            self.assertEqual(list(walk_forms(schema, most)), wanted)
            self.assertEqual(count_forms(schema, most), len(wanted))
            for number, form in enumerate(wanted):
                self.assertEqual(form_number(schema, most, form), number)
                self.assertEqual(numbered_form(schema, most, number), form)

    def test_the_order_by_hand(self):
        a, b = ("bit", 0), ("bit", 1)
        schema = bit_schema(((0,), (1,)))
        forms = list(walk_forms(schema, 2))
        self.assertEqual(forms[:9], [
            [],
            [((a,), [])],
            [((a,), []), ((a,), [])],
            [((a,), []), ((a,), [((a,), [])])],
            [((a,), []), ((a,), [((b,), [])])],
            [((a,), []), ((b,), [])],
            [((a,), []), ((b,), [((a,), [])])],
            [((a,), []), ((b,), [((b,), [])])],
            [((a,), [((a,), [])])],
        ])
        self.assertEqual(forms[-1], [((b,), [((b,), []), ((b,), [])])])

    def test_the_order_of_values(self):
        # Values of the unknown kind come in the order of the book, not in that of their names.
        schema = Schema(sample_book(), ((0,),), ("?",), Rules())
        self.assertEqual([form[0][0][0] for form in walk_forms(schema, 1) if form], sample_book().members("?"))

    def test_no_leaves(self):
        for schema in (bit_schema(((0,),)), bit_schema(((0,), (1,)), Rules((0,), (0, 1)))):
            self.assertEqual(list(walk_forms(schema, 0)), [[]])
            self.assertEqual(count_forms(schema, 0), 1)
            self.assertEqual(form_number(schema, 0, []), 0)
            self.assertEqual(numbered_form(schema, 0, 0), [])
            self.raises(TooMany, numbered_form, schema, 0, 1)

    def test_a_list_that_ends_early(self):
        schema = Schema(LONE, ((0,),), ("one",), Rules((), (0,)))
        self.assertEqual(list(walk_forms(schema, 60)), [[], [((("one", 0),), [])]])
        self.assertEqual(count_forms(schema, 60), 2)
        self.raises(TooMany, numbered_form, schema, 60, 2)


class LongListsTest(Case):
    def test_counts(self):
        self.assertEqual(count_forms(bit_schema(((0,),)), 60), 2 ** 61 - 1)
        self.assertEqual(count_forms(bit_schema(((0,),), Rules((), (0,))), 60), 1 + 2 * 60)
        self.assertEqual(count_forms(bit_schema(((0, 1),)), 60), sum(4 ** leaves for leaves in range(61)))
        self.assertEqual(
            count_forms(Schema(BIG, ((0, 1, 2, 3),), ("?",) * 4, Rules()), 60),
            sum(160000 ** leaves for leaves in range(61)))
        # With full levels every leaf has one cell of each level, and may begin at any of them.
        self.assertEqual(
            count_forms(Schema(LONE, ((0,), (1,)), ("one", "one"), Rules((0,))), 60), 1 + sum(2 ** k for k in range(60)))

    def test_more_than_ten_to_the_300(self):
        schemas = [
            Schema(BIG, ((0,), (1,), (2,), (3,)), ("?",) * 4, Rules()),
            Schema(BIG, ((0,), (1,), (2,), (3,)), ("?",) * 4, Rules((0, 2), (1, 3))),
            Schema(BIG, ((1, 2), (0, 3)), ("?",) * 4, Rules((), (0, 1))),
            Schema(BIG, ((0, 1, 2, 3),), ("?",) * 4, Rules((), (0,))),
        ]
        chance = random.Random(26)
        for schema in schemas:
            count = count_forms(schema, 60)
            self.assertGreater(count, 10 ** 300)
            self.raises(TooMany, numbered_form, schema, 60, count)
            numbers = [0, 1, 2, 60, 61, count // 2, count - 1] + [chance.randrange(count) for _ in range(8)]
            forms = [numbered_form(schema, 60, number) for number in numbers]
            for number, form in zip(numbers, forms):
                self.assertTrue(schema.fits(form))
                self.assertLessEqual(len(plain_outline(form)), 60)
                self.assertEqual(form_number(schema, 60, form), number)
            ordered = sorted(zip(numbers, forms))
            listed = [schema.choices(column) for column in range(4)]
            keys = [plain_key(plain_outline(form), listed, schema.shape) for _, form in sorted(ordered, key=lambda p: p[0])]
            self.assertEqual(keys, sorted(keys))

    def test_the_beginning_of_a_long_walk(self):
        for schema in (bit_schema(((0,), (1,)), Rules((), (0,))), Schema(BIG, ((0,), (1, 2, 3)), ("?",) * 4, Rules())):
            for number, form in enumerate(itertools.islice(walk_forms(schema, 60), 200)):
                self.assertEqual(form, numbered_form(schema, 60, number))
                self.assertEqual(form_number(schema, 60, form), number)

    def test_the_last_form(self):
        schema = bit_schema(((0,), (1,)), Rules((), (1,)))
        b = ("bit", 1)
        self.assertEqual(form_number(schema, 60, [((b,), [((b,), []), ((("bit", 0),), [])] * 30)]), count_forms(schema, 60) - 1)


class ErrorsTest(Case):
    def test_forms_that_do_not_fit(self):
        a = ("bit", 0)
        schema = bit_schema(((0,), (1,)), Rules((0,), (1,)))
        for form in ([((a,), [])], [((a,), [((a,), []), ((a,), [])])], [((a, a), [((a,), [])])],
                     [((("nope", 0),), [((a,), [])])], [((("bit", 2),), [((a,), [])])]):
            for most in (0, 1, 2, 60):
                self.raises(InvalidForm, form_number, schema, most, form)

    def test_forms_with_too_many_leaves(self):
        a = ("bit", 0)
        schema = bit_schema(((0,), (1,)), Rules((), (1,)))
        form = [((a,), []), ((a,), [((a,), [])])]
        self.raises(TooMany, form_number, schema, 0, form)
        self.raises(TooMany, form_number, schema, 1, form)
        self.assertEqual(form_number(schema, 2, form), plain_list(schema, 2).index(form))
        # A form with too many leaves that does not fit either.
        self.raises(InvalidForm, form_number, schema, 1, [((a,), [((a,), []), ((a,), [])])])
        self.raises(InvalidForm, form_number, schema, 0, [((("nope", 0),), [])])
        self.raises(TooMany, form_number, bit_schema(((0,),)), 60, [((a,), [])] * 61)
        self.assertEqual(form_number(bit_schema(((0,),)), 60, [((a,), [])] * 60), 60)


class FreshnessTest(Case):
    def test_answers_and_arguments(self):
        schema = Schema(bit_book(), ((0,), (1,)), ("bit", "?"), Rules((), (0,)))
        for number in range(0, 100, 9):
            self.unchanging(numbered_form, schema, 4, number)
            self.unchanging(form_number, schema, 4, numbered_form(schema, 4, number))
        self.unchanging(count_forms, schema, 4)

    def test_forms_of_a_walk(self):
        schema = bit_schema(((0,), (1,)))
        wanted = list(walk_forms(schema, 2))
        kept = copy.deepcopy(wanted)
        for number, form in enumerate(walk_forms(schema, 2)):
            self.assertEqual(form, kept[number])
            spoil(form)
        self.assertEqual(wanted, kept)

    def test_arguments_after_an_error(self):
        a = ("bit", 0)
        self.raises_unchanged(TooMany, form_number, bit_schema(((0,),)), 1, [((a,), []), ((a,), [])])
        self.raises_unchanged(InvalidForm, form_number, bit_schema(((0,),)), 1, [((a, a), [])])
