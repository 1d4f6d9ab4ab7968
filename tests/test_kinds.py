"""Kinds and values (points 5, 6 and 7)."""

from formroads.errors import DuplicateName, InvalidKind, InvalidName, TooMany, UnknownName
from formroads.kinds import UNKNOWN, Kindbook
from tests.samples import RECORDS, Case, sample_book

CHAIN = [("top", 1, None, ()), ("mid", 2, "top", (0, 0)), ("low", 4, "mid", (1, 0, 1, 1)), ("side", 3, "top", (0,) * 3)]
FIVE = [("a", 1, None, ()), ("b", 2, None, ()), ("c", 3, "b", (1, 0, 1)), ("d", 4, "c", (2, 2, 0, 1)), ("e", 4, None, ())]


class MakingTest(Case):
    def test_numbers_of_records(self):
        self.raises(InvalidKind, Kindbook, [])
        self.assertEqual(Kindbook([("a", 1, None, ())]).names, ("a",))
        self.assertEqual(Kindbook(FIVE).names, ("a", "b", "c", "d", "e"))
        self.raises(TooMany, Kindbook, FIVE + [("f", 1, None, ())])
        self.raises(TooMany, Kindbook, FIVE + FIVE)

    def test_class_values(self):
        self.assertEqual((Kindbook.MOST, Kindbook.MOST_SIZE, UNKNOWN), (5, 4, "?"))

    def test_names(self):
        for name in ("", "abcdefghi", "A", "?", "a1", "day "):
            self.raises(InvalidName, Kindbook, [(name, 1, None, ())])
            self.raises(InvalidName, Kindbook, RECORDS + [(name, 1, None, ())])
        self.assertEqual(Kindbook([("abcdefgh", 1, None, ())]).names, ("abcdefgh",))

    def test_sizes(self):
        for size in (-1, 0, 5, 6):
            self.raises(InvalidKind, Kindbook, [("a", size, None, ())])
            self.raises(InvalidKind, Kindbook, [("a", 1, None, ()), ("b", size, "a", (0,) * max(size, 0))])
        for size in (1, 2, 3, 4):
            book = Kindbook([("a", size, None, ()), ("b", size, "a", tuple(range(size)))])
            self.assertEqual(book.size_of("a"), size)
            self.assertEqual(book.leads_of("b"), tuple(range(size)))

    def test_same_name_twice(self):
        self.raises(DuplicateName, Kindbook, [("a", 1, None, ()), ("a", 1, None, ())])
        self.raises(DuplicateName, Kindbook, [("a", 1, None, ()), ("b", 1, None, ()), ("a", 2, "b", (0, 0))])

    def test_roots(self):
        self.raises(InvalidKind, Kindbook, [("a", 1, None, (0,))])
        self.raises(InvalidKind, Kindbook, [("a", 2, None, ()), ("b", 2, None, (0, 0))])

    def test_parents(self):
        for parent in ("b", "c", "nope", "?", ""):
            self.raises(UnknownName, Kindbook, [("a", 1, None, ()), ("b", 1, parent, (0,)), ("c", 1, None, ())])
        self.raises(UnknownName, Kindbook, [("a", 1, "a", (0,))])

    def test_leads(self):
        for leads in ((), (0,), (0, 0, 0), (0, 2), (2, 0), (-1, 0), (0, -1), (0, 5)):
            self.raises(InvalidKind, Kindbook, [("a", 2, None, ()), ("b", 2, "a", leads)])
        for leads in ((0, 0), (0, 1), (1, 0), (1, 1)):
            self.assertEqual(Kindbook([("a", 2, None, ()), ("b", 2, "a", leads)]).leads_of("b"), leads)
        # The leads are numbers of the parent, not of the kind itself and not of another kind.
        self.raises(InvalidKind, Kindbook, [("a", 1, None, ()), ("b", 4, None, ()), ("c", 3, "a", (0, 1, 0))])
        self.assertEqual(Kindbook([("a", 4, None, ()), ("b", 1, "a", (3,))]).led(("b", 0), "a"), ("a", 3))

    def test_the_first_error_of_one_record(self):
        self.raises(InvalidName, Kindbook, [("A", 0, None, (1,))])
        self.raises(InvalidName, Kindbook, [("", 1, "nope", ())])
        self.raises(DuplicateName, Kindbook, [("a", 1, None, ()), ("a", 0, None, ())])
        self.raises(DuplicateName, Kindbook, [("a", 1, None, ()), ("a", 1, "nope", ())])
        self.raises(InvalidKind, Kindbook, [("a", 0, "nope", ())])
        self.raises(InvalidKind, Kindbook, [("a", 5, "nope", ())])
        self.raises(UnknownName, Kindbook, [("a", 1, "nope", ())])
        self.raises(UnknownName, Kindbook, [("a", 1, "nope", (7, 7))])

    def test_the_number_of_records_comes_first(self):
        self.raises(TooMany, Kindbook, [("A", 0, None, ())] * 6)

    def test_records_are_checked_in_order(self):
        faults = [
            (("A", 1, None, ()), InvalidName), (("ok", 1, None, ()), DuplicateName), (("b", 0, None, ()), InvalidKind),
            (("c", 1, None, (0,)), InvalidKind), (("d", 1, "nope", (0,)), UnknownName), (("e", 1, "ok", ()), InvalidKind),
        ]
        for first, error in faults:
            for second, _ in faults:
                self.raises(error, Kindbook, [("ok", 1, None, ()), first, second])
        # A name that only a later record has is unknown, even if the later record is faulty itself.
        self.raises(UnknownName, Kindbook, [("a", 1, "b", (0,)), ("b", 0, None, ())])


class AskingTest(Case):
    def test_example(self):
        book = sample_book()
        self.assertEqual(book.led(("day", 2), "month"), ("month", 1))
        self.assertIsNone(book.led(("day", 2), "size"))
        self.assertEqual(book.members("?"), [
            ("month", 0), ("month", 1), ("day", 0), ("day", 1), ("day", 2), ("size", 0), ("size", 1)])
        self.assertIs(book.below("?", "month"), False)

    def test_records(self):
        for records in (RECORDS, CHAIN, FIVE):
            book = Kindbook(records)
            self.assertEqual(book.names, tuple(record[0] for record in records))
            self.assertEqual(list(book), [record[0] for record in records])
            for name, size, parent, leads in records:
                self.assertEqual(book.checked(name), name)
                self.assertEqual(book.size_of(name), size)
                self.assertEqual(book.parent_of(name), parent)
                self.assertEqual(book.leads_of(name), leads)
                self.assertIsInstance(book.leads_of(name), tuple)

    def test_in(self):
        book = sample_book()
        for name in ("month", "day", "size"):
            self.assertIs(name in book, True)
        for name in ("?", "nope", "", "mont", "Month"):
            self.assertIs(name in book, False)

    def test_chains(self):
        book = Kindbook(CHAIN)
        self.assertEqual(book.chain_of("top"), ["top"])
        self.assertEqual(book.chain_of("mid"), ["mid", "top"])
        self.assertEqual(book.chain_of("low"), ["low", "mid", "top"])
        self.assertEqual(book.chain_of("side"), ["side", "top"])

    def test_members(self):
        book = Kindbook(CHAIN)
        self.assertEqual(book.members("top"), [("top", 0)])
        self.assertEqual(book.members("low"), [("low", 0), ("low", 1), ("low", 2), ("low", 3)])
        everything = [(name, number) for name, size, _, _ in CHAIN for number in range(size)]
        self.assertEqual(book.members("?"), everything)

    def test_led(self):
        book = Kindbook(FIVE)
        self.assertEqual([book.led(("d", number), "c") for number in range(4)], [("c", 2), ("c", 2), ("c", 0), ("c", 1)])
        self.assertEqual([book.led(("d", number), "b") for number in range(4)], [("b", 1), ("b", 1), ("b", 1), ("b", 0)])
        self.assertEqual([book.led(("c", number), "b") for number in range(3)], [("b", 1), ("b", 0), ("b", 1)])
        for value in book.members("?"):
            self.assertEqual(book.led(value, "?"), value)
            self.assertEqual(book.led(value, value[0]), value)
        for value, kind in ((("b", 0), "c"), (("b", 1), "d"), (("c", 0), "d"), (("a", 0), "b"), (("e", 3), "b")):
            self.assertIsNone(book.led(value, kind))

    def test_below_is_what_the_members_say(self):
        for records in (RECORDS, CHAIN, FIVE, [("a", 2, None, ())]):
            book = Kindbook(records)
            kinds = ("?",) + book.names
            for lower in kinds:
                for upper in kinds:
                    every = all(book.led(value, upper) is not None for value in book.members(lower))
                    self.assertIs(book.below(lower, upper), every, (lower, upper))

    def test_below(self):
        book = Kindbook(CHAIN)
        self.assertIs(book.below("?", "top"), True)
        self.assertIs(book.below("?", "mid"), False)
        self.assertIs(book.below("?", "?"), True)
        self.assertIs(book.below("top", "?"), True)
        self.assertIs(book.below("low", "top"), True)
        self.assertIs(book.below("top", "low"), False)
        self.assertIs(book.below("side", "mid"), False)
        self.assertIs(book.below("mid", "mid"), True)
        self.assertIs(sample_book().below("?", "month"), False)

    def test_finer(self):
        book = Kindbook(CHAIN)
        told = {
            ("top", "top"): "top", ("low", "low"): "low", ("low", "top"): "low", ("top", "low"): "low",
            ("mid", "low"): "low", ("low", "mid"): "low", ("side", "top"): "side", ("top", "side"): "side",
            ("side", "mid"): None, ("mid", "side"): None, ("low", "side"): None, ("side", "low"): None,
        }
        for (first, second), answer in told.items():
            self.assertEqual(book.finer(first, second), answer)

    def test_unknown_names(self):
        book = sample_book()
        for name in ("nope", "", "Month"):
            for method in (book.checked, book.size_of, book.parent_of, book.leads_of, book.chain_of, book.members):
                self.raises(UnknownName, method, name)
            for kind in ("day", "?"):
                self.raises(UnknownName, book.led, (name, 0), kind)
                self.raises(UnknownName, book.below, name, kind)
                self.raises(UnknownName, book.below, kind, name)
            self.raises(UnknownName, book.led, ("day", 0), name)
            self.raises(UnknownName, book.led, (name, 0), name)
            self.raises(UnknownName, book.finer, name, "day")
            self.raises(UnknownName, book.finer, "day", name)
            self.raises(UnknownName, book.finer, name, name)
            self.raises(UnknownName, book.below, name, name)
        for method in (book.checked, book.size_of, book.parent_of, book.leads_of, book.chain_of):
            self.raises(UnknownName, method, "?")
