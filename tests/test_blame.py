"""Values that cross borders one by one, and what is blamed if they stop (points 51 and 56)."""

from formroads.blame import blamable, blamed, walk_value
from formroads.errors import Clash, UnknownName
from formroads.passages import Passage
from tests.kindsamples import all_books, all_sequences, allowed_sequence, plain_members, plain_walk
from tests.samples import Case, sample_book


class BlameTest(Case):
    def test_all_sequences(self):
        for records, book in all_books():
            for borders in range(4):
                for kinds in all_sequences(records, borders):
                    if allowed_sequence(records, kinds):
                        self.check_sequence(records, book, kinds)
                    else:
                        value = plain_members(records, kinds[0])[0]
                        self.raises(Clash, walk_value, book, kinds, value)
                        self.raises(Clash, blamed, book, kinds, value)
                        self.raises(Clash, blamable, book, kinds)

    def check_sequence(self, records, book, kinds):
        positions = []
        for value in plain_members(records, kinds[0]):
            behind, stage = plain_walk(records, kinds, value)
            self.assertEqual(walk_value(book, list(kinds), value), (behind, stage))
            self.assertEqual(Passage.of(book, kinds).stage(value), stage)
            position = blamed(book, kinds, value)
            self.assertEqual(position, stage - 1 if stage else None)
            if stage:
                self.assertEqual(kinds[position], "?")
                positions.append(position)
        self.assertEqual(blamable(book, list(kinds)), sorted(set(positions)))
        self.assertLessEqual(len(set(positions)), 2)

    def test_by_hand(self):
        book = sample_book()
        kinds = ["?", "?", "day", "?", "month", "?", "size"]
        self.assertEqual(walk_value(book, kinds, ("day", 2)), (
            [("day", 2), ("day", 2), ("day", 2), ("month", 1), ("month", 1)], 6))
        self.assertEqual(walk_value(book, kinds, ("size", 0)), ([("size", 0)], 2))
        self.assertEqual([blamed(book, kinds, value) for value in (("day", 2), ("size", 0))], [5, 1])
        self.assertEqual(blamable(book, kinds), [1, 5])
        self.assertEqual(walk_value(book, ["day", "month"], ("day", 0)), ([("month", 0)], 0))
        self.assertIsNone(blamed(book, ["day", "month"], ("day", 0)))

    def test_one_kind(self):
        book = sample_book()
        for kind in ("?", "day"):
            self.assertEqual(walk_value(book, [kind], ("day", 1)), ([], 0))
            self.assertIsNone(blamed(book, (kind,), ("day", 1)))
            self.assertEqual(blamable(book, [kind]), [])

    def test_strange_kinds(self):
        book = sample_book()
        for kinds in (["week"], ["day", "week"], ["month", "day", "week"], ["week", "month", "day"]):
            self.raises(UnknownName, walk_value, book, kinds, ("day", 0))
            self.raises(UnknownName, blamed, book, kinds, ("day", 0))
            self.raises(UnknownName, blamable, book, kinds)

    def test_freshness(self):
        book = sample_book()
        kinds = ["?", "day", "?", "size"]
        self.unchanging(walk_value, book, kinds, ("day", 0))
        self.unchanging(blamed, book, kinds, ("day", 0))
        self.unchanging(blamable, book, kinds)
        self.raises_unchanged(Clash, blamable, book, ["month", "day"])
