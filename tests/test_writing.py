"""Writing (points 21 to 25)."""

import copy
import itertools

from formroads.errors import (
    DuplicateName, InvalidForm, InvalidKind, InvalidName, InvalidSchema, InvalidShape, InvalidText, TooMany, UnknownName,
)
from formroads.kinds import Kindbook
from formroads.rules import Rules
from formroads.schemas import Schema
from formroads.writing import (
    read_book, read_form, read_schema, read_value, write_book, write_form, write_schema, write_value,
)
from tests.samples import RECORDS, Case, all_rules, all_shapes, bit_forms, plain, sample_book
from tests.test_words import NO_NUMBERS

BOOK_LINES = ["month 2", "day 3 month 0 0 1", "size 2"]
NO_LINES = ["", " ", " a 1", "a 1 ", "a  1", "a 1  b"]


class ValuesTest(Case):
    def test_values(self):
        for value, text in ((("day", 3), "day:3"), (("a", 0), "a:0"), (("abcdefgh", 999999), "abcdefgh:999999"),
                            (("nope", 10), "nope:10"), (("size", 100000), "size:100000")):
            self.assertEqual(write_value(value), text)
            self.assertEqual(read_value(text), value)

    def test_no_values(self):
        texts = ["", ":", "day", "day:", ":3", "day3", "day::3", "day:3:", "day:3:4", "day 3", "day :3", "day: 3",
                 "Day:3", "?:0", "abcdefghi:0", "day1:0", " day:3", "day:3 ", "day;3", "3:day", "day:1000000"]
        for text in texts + ["day:" + number for number in NO_NUMBERS]:
            self.raises(InvalidText, read_value, text)


class BooksTest(Case):
    def test_books(self):
        self.assertEqual(write_book(sample_book()), BOOK_LINES)
        self.assertEqual(plain(read_book(BOOK_LINES)), plain(sample_book()))
        for records in ([("a", 1, None, ())], [("a", 4, None, ()), ("b", 1, "a", (3,)), ("c", 4, "b", (0, 0, 0, 0))],
                        RECORDS + [("x", 1, None, ()), ("y", 2, "day", (2, 0))]):
            book = Kindbook(records)
            lines = write_book(book)
            self.assertEqual(len(lines), len(records))
            self.assertEqual(plain(read_book(lines)), plain(book))
            self.assertEqual(write_book(read_book(lines)), lines)
            self.assertIsInstance(read_book(lines), Kindbook)

    def test_no_lines_of_kinds(self):
        lines = NO_LINES + ["month", "month two", "month 02", "month -1", "month 1000000", "month 2:", "month month 2",
                            "day 3 month 0 0 x", "day 3 month 00 0 1", "day 3 month 0 -1 1", "day 3 month 0 0 1 ?",
                            "day 3 month 0 0 1000000", "day 3 nope 0 0 month"]
        for line in lines:
            self.raises(InvalidText, read_book, [line])
            self.raises(InvalidText, read_book, BOOK_LINES + [line])
            self.raises(InvalidText, read_book, [line] + BOOK_LINES)

    def test_what_making_the_book_raises(self):
        self.raises(InvalidKind, read_book, [])
        self.raises(TooMany, read_book, ["a 1", "b 1", "c 1", "d 1", "e 1", "f 1"])
        self.raises(InvalidName, read_book, ["Month 2"])
        self.raises(InvalidName, read_book, ["? 2"])
        self.raises(InvalidName, read_book, ["3 3"])
        self.raises(DuplicateName, read_book, ["month 2", "month 2"])
        self.raises(InvalidKind, read_book, ["month 0"])
        self.raises(InvalidKind, read_book, ["month 5"])
        self.raises(InvalidKind, read_book, ["month 999999"])
        self.raises(UnknownName, read_book, ["day 3 month 0 0 1", "month 2"])
        self.raises(UnknownName, read_book, ["month 2", "day 1 3 0"])
        self.raises(UnknownName, read_book, ["month 2", "day 1 ? 0"])
        self.raises(InvalidKind, read_book, ["month 2", "day 3 month"])
        self.raises(InvalidKind, read_book, ["month 2", "day 3 month 0 0"])
        self.raises(InvalidKind, read_book, ["month 2", "day 3 month 0 0 1 1"])
        self.raises(InvalidKind, read_book, ["month 2", "day 3 month 0 0 2"])

    def test_all_lines_are_read_first(self):
        self.raises(InvalidText, read_book, ["Month 2", "month"])
        self.raises(InvalidText, read_book, ["month 0", "day 3 nope 0 x"])
        self.raises(InvalidText, read_book, ["a 1", "b 1", "c 1", "d 1", "e 1", "f 1", "g"])
        self.raises(InvalidText, read_book, ["month 2", "month 2", "month  2"])


class SchemasTest(Case):
    def test_example(self):
        line = "0,2/1 day,?,month f0,p1"
        schema = Schema(sample_book(), ((0, 2), (1,)), ("day", "?", "month"), Rules((0,), (1,)))
        self.assertEqual(write_schema(schema), line)
        self.assertEqual(plain(read_schema(sample_book(), line)), plain(schema))
        self.assertIsInstance(read_schema(sample_book(), line), Schema)

    def test_without_rules(self):
        schema = Schema(sample_book(), ((0,),), ("?",), Rules())
        self.assertEqual(write_schema(schema), "0 ? -")
        self.assertEqual(plain(read_schema(sample_book(), "0 ? -")), plain(schema))

    def test_all_rules(self):
        for shape in (((0,), (1,), (2,)), ((2,), (0, 1)), ((0, 1, 2),)):
            lines = []
            for rules in all_rules(shape):
                schema = Schema(sample_book(), shape, ("day", "?", "size"), rules)
                line = write_schema(schema)
                words = ["f" + str(level) for level in rules.full] + ["p" + str(level) for level in rules.parted]
                self.assertEqual(line.split(" ")[2], ",".join(words) or "-")
                self.assertEqual(plain(read_schema(sample_book(), line)), plain(schema))
                lines.append(line)
            self.assertEqual(len(set(lines)), len(lines))

    def test_all_shapes(self):
        book = sample_book()
        for count in range(1, 5):
            for number, shape in enumerate(all_shapes(count)):
                kinds = [("day", "?", "month", "size", "?")[(number + column) % 5] for column in range(count)]
                schema = Schema(book, shape, kinds, Rules())
                line = write_schema(schema)
                self.assertEqual(line.split(" ")[0], "/".join(",".join(map(str, level)) for level in shape))
                self.assertEqual(line.split(" ")[1], ",".join(kinds))
                self.assertTrue(read_schema(book, line).same(schema))
                self.assertEqual(plain(read_schema(book, line).book), plain(book))

    def test_no_lines(self):
        lines = NO_LINES + ["0", "0 day", "0 day - -", "0  day -", " 0 day -", "0 day - "]
        self.all_invalid(lines)

    def test_no_columns(self):
        self.all_invalid([word + " day,?,month -" for word in (
            "0//1", "/0,1", "0,1/", "0,,1", ",0", "0,", "0/1,", "/", ",", "x", "0,x", "0/-1", "00", "0,01", "0;1", "?",
            "0,1000000", "-")])

    def test_no_kinds(self):
        self.all_invalid(["0,1 " + word + " -" for word in (
            "day,", ",day", ",", "day,,day", "Day,day", "day,??", "day/day", "day;day", "1,day", "day,abcdefghi", "day:0,day",
            "-")])

    def test_no_rules(self):
        self.all_invalid(["0/1/2 day,?,month " + word for word in (
            "p0,f0", "p1,p0", "f1,f0", "f0,f0", "p1,p1", "f0,p0,f1", "f0,", ",f0", "f0,,p0", ",", "f", "p", "0", "f00", "p01",
            "x0", "F0", "f-1", "--", "-,f0", "f0,-", "f0p0", "f0/p0", "ff0", "f0,p", "f1000000", "?", "full0", "f0,x1")])

    def all_invalid(self, lines):
        for line in lines:
            self.raises(InvalidText, read_schema, sample_book(), line)

    def test_what_making_the_schema_raises(self):
        book = sample_book()
        for word in ("1,0", "0,0", "0/0", "1", "0/2", "0,1,2,3,4", "0,999999", "1,2"):
            kinds = ",".join(["day"] * len(word.replace("/", ",").split(",")))
            self.raises(InvalidShape, read_schema, book, word + " " + kinds + " -")
        self.raises(InvalidSchema, read_schema, book, "0,1 day -")
        self.raises(InvalidSchema, read_schema, book, "0,1 day,day,? -")
        self.raises(UnknownName, read_schema, book, "0,1 day,nope -")
        self.raises(InvalidSchema, read_schema, book, "0/1 day,day f1")
        self.raises(InvalidSchema, read_schema, book, "0/1 day,day p2")
        self.raises(InvalidSchema, read_schema, book, "0/1 day,day f0,p999999")

    def test_the_first_error(self):
        book = sample_book()
        self.raises(InvalidText, read_schema, book, "1,0 nope p1,p0")
        self.raises(InvalidText, read_schema, book, "1,0 Day -")
        self.raises(InvalidText, read_schema, book, "0//1 nope f7")
        self.raises(InvalidShape, read_schema, book, "1,0 nope f7")
        self.raises(InvalidSchema, read_schema, book, "0,1 nope f7")
        self.raises(UnknownName, read_schema, book, "0,1 nope,day f7")


class FormsTest(Case):
    FORM = [((("day", 2), ("size", 0)), [((("month", 1),), []), ((("month", 0),), [])]), ((("day", 0), ("size", 1)), [])]
    LINES = ["0 day:2 size:0", "1 month:1", "1 month:0", "0 day:0 size:1"]

    def test_example(self):
        self.assertEqual(write_form(self.FORM), self.LINES)
        self.assertEqual(read_form(self.LINES), self.FORM)
        self.assertEqual(write_form([]), [])
        self.assertEqual(read_form([]), [])
        self.assertEqual(read_form(["0 day:2 size:0", "1 day:2 size:0"]), [
            ((("day", 2), ("size", 0)), [((("day", 2), ("size", 0)), [])])])

    def test_neither_book_nor_shape(self):
        lines = ["0 nope:999999", "1 a:0 b:1 c:2 d:3 e:4 f:5", "2 nope:0", "3 nope:0", "4 nope:0", "5 nope:0", "5 a:0 a:0"]
        self.assertEqual(write_form(read_form(lines)), lines)

    def test_small_forms(self):
        for shape in (((0,),), ((0,), (1,)), ((0, 2), (1,)), ((2,), (1,), (0,))):
            seen = []
            for form in bit_forms(shape, 2):
                lines = write_form(form)
                self.assertEqual(read_form(lines), form)
                seen.append(tuple(lines))
            self.assertEqual(len(set(seen)), len(seen))

    def test_no_lines_of_rows(self):
        lines = NO_LINES + ["0", "day:0", "day:0 0", "0 day", "0 day:", "0 day:0 0", "0 0 day:0", "00 day:0", "-1 day:0",
                            "x day:0", "0 ?:0", "0 day:00", "0 day:1000000", "1000000 day:0", "0 Day:0", "0  day:0",
                            "0 day:0 ", " 0 day:0", "0 day:0  day:0", "0 day:0 /", "0: day:0"]
        for line in lines:
            self.raises(InvalidText, read_form, [line])
            self.raises(InvalidText, read_form, self.LINES + [line])
            self.raises(InvalidText, read_form, [line] + self.LINES)

    def test_levels(self):
        for length in range(1, 5):
            for levels in itertools.product(range(4), repeat=length):
                lines = [str(level) + " day:" + str(number) for number, level in enumerate(levels)]
                if all(level <= before + 1 for before, level in zip((-1,) + levels, levels)):
                    self.assertEqual(write_form(read_form(lines)), lines)
                else:
                    self.raises(InvalidForm, read_form, lines)
        self.raises(InvalidForm, read_form, ["999999 day:0"])

    def test_the_first_error(self):
        self.raises(InvalidText, read_form, ["1 day:0", "x"])
        self.raises(InvalidText, read_form, ["0 day:0", "2 day:0", "0 day:00"])


class FreshnessTest(Case):
    def test_answers_and_arguments(self):
        self.unchanging(write_value, ("day", 3))
        self.unchanging(read_value, "day:3")
        self.unchanging(write_book, sample_book())
        self.unchanging(read_book, list(BOOK_LINES))
        self.unchanging(read_schema, sample_book(), "0/1 day,? f0")
        self.unchanging(write_schema, read_schema(sample_book(), "0/1 day,? f0"))
        self.unchanging(write_form, copy.deepcopy(FormsTest.FORM))
        self.unchanging(read_form, list(FormsTest.LINES))

    def test_arguments_after_an_error(self):
        self.raises_unchanged(InvalidText, read_book, BOOK_LINES + ["x"])
        self.raises_unchanged(DuplicateName, read_book, BOOK_LINES + ["size 2"])
        self.raises_unchanged(InvalidText, read_form, FormsTest.LINES + ["x"])
        self.raises_unchanged(InvalidForm, read_form, FormsTest.LINES + ["3 day:0"])
