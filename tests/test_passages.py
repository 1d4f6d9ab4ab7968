"""Passages of sequences of kinds (points 51 to 54)."""

from formroads.errors import Clash, NotJoined, UnknownName
from formroads.passages import Passage
from tests.kindsamples import all_books, all_sequences, allowed_sequence, plain_members, plain_walk
from tests.samples import Case, sample_book


def sequences_of(records, borders):
    return [kinds for kinds in all_sequences(records, borders) if allowed_sequence(records, kinds)]


class SequencesTest(Case):
    def test_values_cross_as_they_do_one_by_one(self):
        for records, book in all_books():
            for borders in range(4):
                for kinds in sequences_of(records, borders):
                    self.check_sequence(records, book, kinds)

    def test_long_sequences(self):
        for records, book in all_books():
            for kinds in sequences_of(records, 3)[::3]:
                for others in sequences_of(records, 2)[::4]:
                    if kinds[-1] == others[0]:
                        self.check_sequence(records, book, kinds + others[1:])

    def check_sequence(self, records, book, kinds):
        passage = Passage.of(book, list(kinds))
        members = plain_members(records, kinds[0])
        for value in members:
            behind, stage = plain_walk(records, kinds, value)
            self.assertEqual(passage.stage(value), stage, (kinds, value))
            self.assertEqual(passage.lead(value), None if stage else ([value] + behind)[-1], (kinds, value))
        self.assertEqual(passage.passing(), [value for value in members if not plain_walk(records, kinds, value)[1]])
        self.assertEqual(passage.facts()[:3], (kinds[0], kinds[-1], len(kinds) - 1))

    def test_joined_parts_have_the_facts_of_the_whole(self):
        for records, book in all_books():
            for borders in (1, 2, 3):
                for kinds in sequences_of(records, borders):
                    self.check_splits(book, kinds)
            for kinds in sequences_of(records, 3)[::3]:
                for others in sequences_of(records, 2)[::5]:
                    if kinds[-1] == others[0]:
                        self.check_splits(book, kinds + others[1:])

    def check_splits(self, book, kinds):
        whole = Passage.of(book, kinds).facts()
        for at in range(len(kinds)):
            parts = Passage.of(book, kinds[:at + 1]).then(Passage.of(book, kinds[at:]))
            self.assertEqual(parts.facts(), whole, (kinds, at))
            for second in range(at, len(kinds)):
                first = Passage.of(book, kinds[:at + 1])
                rest = Passage.of(book, kinds[at:second + 1]).then(Passage.of(book, kinds[second:]))
                self.assertEqual(first.then(rest).facts(), whole, (kinds, at, second))

    def test_borders_that_are_not_allowed(self):
        for records, book in all_books():
            for borders in (1, 2):
                for kinds in all_sequences(records, borders):
                    if not allowed_sequence(records, kinds):
                        self.raises(Clash, Passage.of, book, kinds)


class FactsTest(Case):
    def test_by_hand(self):
        book = sample_book()
        for kinds, facts in (
            (["day"], ("day", "day", 0, None, 0, "day", 0)),
            (["?"], ("?", "?", 0, None, 0, None, 0)),
            (["?", "?", "?"], ("?", "?", 2, None, 0, None, 0)),
            (["day", "month"], ("day", "month", 1, None, 0, "month", 0)),
            (["day", "?", "month", "?"], ("day", "?", 3, None, 0, "month", 0)),
            (["?", "day", "?"], ("?", "?", 2, "day", 1, "day", 0)),
            # Two told kinds behind unknown ones: the second one is above, below and beside the first one.
            (["?", "?", "day", "month"], ("?", "month", 3, "day", 2, "month", 0)),
            (["?", "?", "month", "?", "day"], ("?", "day", 4, "month", 2, "month", 4)),
            (["?", "?", "day", "?", "size"], ("?", "size", 4, "day", 2, "day", 4)),
            # Behind the fail stage nothing changes.
            (["?", "day", "?", "size", "?", "month"], ("?", "month", 5, "day", 1, "day", 3)),
            (["month", "?", "day"], ("month", "day", 2, None, 0, "month", 2)),
            (["?", "?", "day", "?", "month", "?", "size"], ("?", "size", 6, "day", 2, "month", 6)),
        ):
            self.assertEqual(Passage.of(book, kinds).facts(), facts)
            self.assertEqual(Passage.of(book, tuple(kinds)).facts(), facts)

    def test_the_example(self):
        book = sample_book()
        passage = Passage.of(book, ["?", "?", "day", "?", "month", "?", "size"])
        self.assertEqual(passage.stage(("size", 1)), 2)
        self.assertEqual(passage.stage(("day", 1)), 6)
        self.assertIsNone(passage.lead(("day", 1)))
        joined = Passage.of(book, ["?", "day"]).then(Passage.of(book, ["day", "month"]))
        self.assertEqual(joined.lead(("day", 2)), ("month", 1))

    def test_joined_by_hand(self):
        book = sample_book()
        for first, second, facts in (
            # A second gate that the reached kind is below, and one that it is not below.
            (["?", "day", "?"], ["?", "?", "month"], ("?", "month", 4, "day", 1, "month", 0)),
            (["?", "day", "?"], ["?", "?", "size"], ("?", "size", 4, "day", 1, "day", 4)),
            (["day", "?"], ["?", "size", "?", "day"], ("day", "day", 4, None, 0, "day", 2)),
            # The first has reached no kind, or fails.
            (["?", "?"], ["?", "day", "?", "size"], ("?", "size", 4, "day", 2, "day", 4)),
            (["?", "day", "?", "size"], ["size", "?", "month"], ("?", "month", 5, "day", 1, "day", 3)),
            # The second has reached no kind, or fails behind a gate.
            (["?", "day", "?"], ["?", "?"], ("?", "?", 3, "day", 1, "day", 0)),
            (["?", "day", "?"], ["?", "month", "?", "size"], ("?", "size", 5, "day", 1, "month", 5)),
        ):
            self.assertEqual(Passage.of(book, first).then(Passage.of(book, second)).facts(), facts)

    def test_nothing_is_checked(self):
        passage = Passage(sample_book(), "week", "era", 7, "age", 2, "eon", 9)
        self.assertEqual(passage.facts(), ("week", "era", 7, "age", 2, "eon", 9))
        named = (
            passage.start_kind, passage.end_kind, passage.borders, passage.gate, passage.gate_stage, passage.reached,
            passage.fail_stage,
        )
        self.assertEqual(named, passage.facts())
        self.assertEqual(passage.book.names, sample_book().names)

    def test_stages_need_not_be_numbers_of_borders(self):
        # Ranks take the place of stages in summaries.
        passage = Passage(sample_book(), "?", "size", 2, "day", 1, "month", 2)
        self.assertEqual([passage.stage(value) for value in (("size", 0), ("month", 0), ("day", 0))], [1, 1, 2])
        # A rank may even be the first one where a sequence cannot fail at its first border.
        failing = Passage(sample_book(), "day", "?", 1, None, 0, "day", 1)
        self.assertEqual(
            failing.then(Passage.of(sample_book(), ["?", "month"])).facts(), ("day", "month", 2, None, 0, "day", 1))


class ErrorsTest(Case):
    def test_strange_kinds(self):
        book = sample_book()
        for kinds in (["week"], ["day", "week"], ["week", "day"], ["", "?"], ["?", "DAY"],
                      # Beside a clash.
                      ["month", "day", "week"], ["week", "month", "day"]):
            self.raises(UnknownName, Passage.of, book, kinds)
            self.raises(UnknownName, Passage.of, book, tuple(kinds))
        self.raises(Clash, Passage.of, book, ["?", "month", "day"])
        self.raises(Clash, Passage.of, book, ["?", "month", "size", "?"])

    def test_not_joined(self):
        book = sample_book()
        for first, second in ((["day"], ["month"]), (["?", "day"], ["?"]), (["day", "?"], ["day", "?"]),
                              (["month", "?", "day"], ["size"])):
            self.raises_unchanged(NotJoined, Passage.of(book, first).then, Passage.of(book, second))


class FreshnessTest(Case):
    def test_answers(self):
        book = sample_book()
        kinds = ["?", "day", "?", "month"]
        passage = Passage.of(book, kinds)
        kinds.clear()
        self.assertEqual(passage.facts(), ("?", "month", 3, "day", 1, "month", 0))
        self.unchanging(passage.passing)
        self.unchanging(passage.facts)
        self.unchanging(passage.stage, ("day", 1))
        self.unchanging(passage.lead, ("day", 1))
        self.unchanging(Passage.of, book, ["?", "day", "?"])
        other = Passage.of(book, ["month", "?"])
        facts = passage.facts(), other.facts()
        passage.then(other)
        self.assertEqual((passage.facts(), other.facts()), facts)
        self.raises_unchanged(Clash, Passage.of, book, ["month", "day"])
