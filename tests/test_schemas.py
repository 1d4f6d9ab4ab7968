"""Schemas (points 17 and 18)."""

import copy
import itertools

from formroads.errors import InvalidForm, InvalidSchema, InvalidShape, UnknownName
from formroads.kinds import Kindbook
from formroads.rules import Rules
from formroads.schemas import Schema
from tests.samples import BIT, Case, all_forms, all_rules, all_shapes, bit_forms, bit_schema, plain, plain_obeys, sample_book

SHAPE = ((0, 2), (1,))
KINDS = ("day", "?", "month")


class MakingTest(Case):
    def test_attributes(self):
        book = sample_book()
        rules = Rules((0,), (1,))
        schema = Schema(book, SHAPE, KINDS, rules)
        self.assertEqual(plain(schema.book), plain(book))
        self.assertEqual((schema.shape, schema.kinds, schema.last), (SHAPE, KINDS, 1))
        self.assertEqual((schema.rules.full, schema.rules.parted), ((0,), (1,)))
        self.assertEqual(Schema(book, SHAPE, list(KINDS), Rules()).kinds, KINDS)
        for shape in all_shapes(3):
            self.assertEqual(Schema(book, shape, KINDS, Rules()).last, len(shape) - 1)

    def test_shapes(self):
        for shape in ((), ((),), ((1,),), ((0,), (0,)), ((1, 0),), ((0, 1, 2, 3, 4),)):
            self.raises(InvalidShape, Schema, sample_book(), shape, ("day",) * sum(map(len, shape)), Rules())

    def test_numbers_of_kinds(self):
        for kinds in ((), ("day",), ("day", "?"), ("day", "?", "day", "day")):
            self.raises(InvalidSchema, Schema, sample_book(), SHAPE, kinds, Rules())

    def test_unknown_kinds(self):
        for kind in ("nope", "", "Day", "??"):
            for at in range(3):
                kinds = list(KINDS)
                kinds[at] = kind
                self.raises(UnknownName, Schema, sample_book(), SHAPE, kinds, Rules())

    def test_levels_of_rules(self):
        for shape in (((0, 1, 2),), SHAPE, ((0,), (1,), (2,))):
            last = len(shape) - 1
            for level in range(-1, 6):
                for rules, allowed in ((Rules((level,)), 0 <= level < last), (Rules((), (level,)), 0 <= level <= last)):
                    if allowed:
                        self.assertEqual(Schema(sample_book(), shape, KINDS, rules).rules.named(), rules.named())
                    else:
                        self.raises(InvalidSchema, Schema, sample_book(), shape, KINDS, rules)

    def test_one_bad_rule_among_good_ones(self):
        shape = ((0,), (1,), (2,))
        self.raises(InvalidSchema, Schema, sample_book(), shape, KINDS, Rules((0, 1, 2), (0, 1, 2)))
        self.raises(InvalidSchema, Schema, sample_book(), shape, KINDS, Rules((0, 1), (0, 1, 2, 3)))
        self.raises(InvalidSchema, Schema, sample_book(), shape, KINDS, Rules((0, 1), (-1, 0, 1)))
        self.assertEqual(Schema(sample_book(), shape, KINDS, Rules((0, 1), (0, 1, 2))).rules.parted, (0, 1, 2))

    def test_the_first_error(self):
        book = sample_book()
        self.raises(InvalidShape, Schema, book, ((1, 0),), ("nope",), Rules((5,)))
        self.raises(InvalidShape, Schema, book, ((0,), ()), ("day", "day"), Rules((5,)))
        self.raises(InvalidSchema, Schema, book, SHAPE, ("nope", "day"), Rules())
        self.raises(UnknownName, Schema, book, SHAPE, ("day", "day", "nope"), Rules((5,)))
        self.raises(UnknownName, Schema, book, SHAPE, ("nope", "day", "?"), Rules((), (-1,)))

    def test_kinds_of_another_book(self):
        self.raises(UnknownName, Schema, Kindbook([("bit", 2, None, ())]), SHAPE, KINDS, Rules())


class FittingTest(Case):
    def check_both(self, schema, form, fits):
        self.assertIs(schema.fits(form), fits, form)
        if fits:
            self.assertIsNone(schema.check(form))
        else:
            self.raises(InvalidForm, schema.check, form)

    def test_choices(self):
        schema = Schema(sample_book(), SHAPE, KINDS, Rules())
        self.assertEqual(schema.choices(0), [("day", 0), ("day", 1), ("day", 2)])
        self.assertEqual(schema.choices(1), sample_book().members("?"))
        self.assertEqual(schema.choices(2), [("month", 0), ("month", 1)])

    def test_kinds_of_columns(self):
        schema = Schema(sample_book(), SHAPE, KINDS, Rules())
        values = sample_book().members("?") + [("day", 3), ("day", -1), ("month", 2), ("nope", 0), ("?", 0)]
        for first, second, third in itertools.product(values, repeat=3):
            fits = first[0] == "day" and 0 <= first[1] < 3 and third in (("month", 0), ("month", 1))
            fits = fits and second in sample_book().members("?")
            self.check_both(schema, [((first, third), [((second,), [])])], fits)

    def test_every_row_counts(self):
        schema = Schema(sample_book(), ((0,), (1,)), ("day", "size"), Rules())
        good = ((("day", 0),), [((("size", 0),), []), ((("size", 1),), [])])
        self.check_both(schema, [good, good], True)
        self.check_both(schema, [], True)
        for row in (((("size", 0),), []), ((("day", 0),), [((("day", 0),), [])]),
                    ((("day", 0),), [((("size", 0),), []), ((("size", 2),), [])])):
            self.check_both(schema, [row, good], False)
            self.check_both(schema, [good, row], False)

    def test_shapes_of_forms(self):
        a, b = BIT
        schema = bit_schema(((0,), (1,)))
        for form in ([((a, b), [])], [((), [])], [((a,), [((b,), [((b,), [])])])], [((a,), [((b, b), [])])]):
            self.check_both(schema, form, False)
        self.check_both(schema, [((a,), [])], True)

    def test_rules(self):
        for shape, most in ((((0,),), 3), (((0,), (1,)), 2), (((0,), (1,), (2,)), 2)):
            forms = bit_forms(shape, most)
            for rules in all_rules(shape):
                schema = bit_schema(shape, rules)
                for form in forms[::3]:
                    self.check_both(schema, form, all(plain_obeys(form, rule) for rule in rules.named()))

    def test_values_of_other_kinds_in_all_small_forms(self):
        schema = Schema(sample_book(), ((0,), (1,)), ("month", "size"), Rules((0,)))
        choices = [[("month", 0), ("size", 0)], [("size", 1), ("day", 1)]]
        for form in all_forms(((0,), (1,)), choices, 2):
            kinds = all(cells[0][0] == "month" and all(row[0][0][0] == "size" for row in inner) for cells, inner in form)
            self.check_both(schema, form, kinds and all(inner for _, inner in form))


class ChangingTest(Case):
    def test_same(self):
        book = sample_book()
        variants = [
            (SHAPE, KINDS, Rules()), (((0,), (1, 2)), KINDS, Rules()), (SHAPE, ("day", "?", "day"), Rules()),
            (SHAPE, KINDS, Rules((0,))), (SHAPE, KINDS, Rules((), (0,))), (SHAPE, ("day", "month", "?"), Rules()),
        ]
        for first, second in itertools.product(range(len(variants)), repeat=2):
            one, other = Schema(book, *variants[first]), Schema(book, *variants[second])
            self.assertIs(one.same(other), first == second)
        self.assertIs(Schema(book, SHAPE, KINDS, Rules((0,), (1, 0))).same(
            Schema(book, SHAPE, list(KINDS), Rules((0, 0), (0, 1)))), True)

    def test_with_kinds(self):
        schema = Schema(sample_book(), SHAPE, KINDS, Rules((0,), (1,)))
        other = schema.with_kinds(["?", "size", "size"])
        self.assertEqual((other.shape, other.kinds, other.last), (SHAPE, ("?", "size", "size"), 1))
        self.assertEqual((other.rules.full, other.rules.parted), ((0,), (1,)))
        self.assertEqual(plain(other.book), plain(schema.book))
        self.assertEqual(schema.kinds, KINDS)
        self.raises(InvalidSchema, schema.with_kinds, ("day", "day"))
        self.raises(UnknownName, schema.with_kinds, ("day", "day", "nope"))
        self.raises(InvalidSchema, schema.with_kinds, ("nope", "nope"))

    def test_with_rules(self):
        schema = Schema(sample_book(), SHAPE, KINDS, Rules((0,), (1,)))
        other = schema.with_rules(Rules((), (0,)))
        self.assertEqual((other.shape, other.kinds, other.rules.full, other.rules.parted), (SHAPE, KINDS, (), (0,)))
        self.assertEqual((schema.rules.full, schema.rules.parted), ((0,), (1,)))
        self.raises(InvalidSchema, schema.with_rules, Rules((1,)))
        self.raises(InvalidSchema, schema.with_rules, Rules((), (2,)))


class FreshnessTest(Case):
    def test_a_schema_copies_its_kinds(self):
        kinds = list(KINDS)
        schema = Schema(sample_book(), SHAPE, kinds, Rules())
        other = schema.with_kinds(kinds)
        kinds[0] = "size"
        kinds.append("size")
        self.assertEqual((schema.kinds, other.kinds), (KINDS, KINDS))

    def test_answers_and_arguments(self):
        schema = Schema(sample_book(), SHAPE, KINDS, Rules((0,)))
        told = plain(schema)
        self.unchanging(schema.choices, 0)
        self.unchanging(schema.choices, 1)
        good = [((("day", 0), ("month", 0)), [((("size", 0),), [])])]
        self.unchanging(schema.check, copy.deepcopy(good))
        self.unchanging(schema.fits, copy.deepcopy(good))
        self.raises_unchanged(InvalidForm, schema.check, [((("day", 0), ("month", 0)), [])])
        self.raises_unchanged(UnknownName, Schema, sample_book(), SHAPE, ["day", "day", "nope"], Rules())
        self.unchanging(schema.with_kinds, ["?", "?", "?"])
        self.unchanging(schema.with_rules, Rules())
        self.assertEqual(plain(schema), told)

    def test_kind_books(self):
        records = [("month", 2, None, ()), ("day", 3, "month", (0, 0, 1))]
        book = Kindbook(records)
        records.pop()
        self.assertEqual(book.names, ("month", "day"))
        for kind in ("month", "day", "?"):
            self.unchanging(book.members, kind)
        self.unchanging(book.chain_of, "day")
        self.unchanging(book.leads_of, "day")
        self.unchanging(book.led, ("day", 2), "month")
        self.unchanging(Kindbook, [("month", 2, None, ()), ("day", 3, "month", (0, 0, 1))])
        self.raises_unchanged(UnknownName, Kindbook, [("month", 2, None, ()), ("day", 3, "nope", (0, 0, 1))])
        names = list(book)
        names.append("nope")
        self.assertEqual((list(book), book.names), (["month", "day"], ("month", "day")))
