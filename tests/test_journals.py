"""The writing of entries (point 118)."""

import itertools
import random

from formroads.errors import InvalidForm, InvalidText
from formroads.journals import read_entry, write_entry
from tests.housesamples import some_houses
from tests.roadsamples import SMALL, forms_of, some_schema
from tests.samples import Case
from tests.test_stops import BITS

FORM = [((("day", 1),), [((("size", 0),), []), ((("size", 1),), [])]), ((("day", 0),), [])]
ENTRIES = [
    (("enter", "ann", "home", FORM), "enter ann home 0 day:1 / 1 size:0 / 1 size:1 / 0 day:0"),
    (("enter", "ann", "home", [((("day", 1), ("x", 12)), [])]), "enter ann home 0 day:1 x:12"),
    (("enter", "ann", "home", []), "enter ann home"),
    (("leave", "ann"), "leave ann"),
    (("move", "ann", "go"), "move ann go"),
    (("back", "ann"), "back ann"),
    (("kinds", "home", ("day", "?", "size")), "kinds home day,?,size"),
    (("kinds", "home", ("?",)), "kinds home ?"),
    (("steps", "go", (("nest", 0, (1, 2)), ("unnest", 1), ("nest", 10, (0,)))), "steps go nest 0 1,2 / unnest 1 / nest 10 0"),
    (("steps", "go", (("unnest", 0),)), "steps go unnest 0"),
    (("steps", "go", ()), "steps go"),
    (("move", "move", "enter"), "move move enter"),
    (("leave", "abcdefgh"), "leave abcdefgh"),
]


class WritingTest(Case):
    def test_by_hand(self):
        for entry, line in ENTRIES:
            self.assertEqual(write_entry(entry), line)
            self.assertEqual(read_entry(line), entry)

    def test_the_example(self):
        self.assertEqual(read_entry("enter ann home 0 day:1 / 1 size:0"), (
            "enter", "ann", "home", [((("day", 1),), [((("size", 0),), [])])]))

    def test_entries_of_houses(self):
        words = set()
        for seed, (records, count) in enumerate(((SMALL, 2), (BITS, 3))):
            for _, _, house, _ in itertools.islice(some_houses(seed, records, count, 8), 10):
                for entry in house.journal():
                    words.add(entry[0])
                    self.assertEqual(read_entry(write_entry(entry)), entry)
        self.assertGreater(len(words), 4)

    def test_forms_by_chance(self):
        chance = random.Random(118)
        for _ in range(20):
            for form in forms_of(SMALL, some_schema(chance, SMALL, 2), 2)[::50]:
                entry = ("enter", "ann", "home", form)
                self.assertEqual(read_entry(write_entry(entry)), entry)

    def test_kinds_of_any_number(self):
        for count in range(1, 8):
            kinds = ("day", "?", "abcdefgh")[:count] + ("?",) * (count - 3)
            self.assertEqual(read_entry("kinds home " + ",".join(kinds)), ("kinds", "home", kinds))


class ReadingTest(Case):
    def test_lines_of_other_words(self):
        for line in (
            "", " ", "enter", "enter ann", "leave", "leave ann bob", "move ann", "move ann go on", "move", "back", "back ann on",
            "kinds", "kinds home", "kinds home day size", "steps", "undo", "list", "Enter ann home", "enters ann home",
            " leave ann", "leave ann ", "leave  ann", "move ann  go", "show ann", "journal", "ask ann rows 0", "/", "?",
        ):
            self.raises(InvalidText, read_entry, line)

    def test_words_that_are_no_names(self):
        for word in ("Ann", "a1", "abcdefghi", "?", "a-b", "/", "0"):
            for line in (
                "enter WORD home", "enter ann WORD", "enter WORD home 0 day:1", "leave WORD", "move WORD go", "move ann WORD",
                "back WORD", "kinds WORD day", "steps WORD", "steps WORD unnest 0",
            ):
                self.raises(InvalidText, read_entry, line.replace("WORD", word))

    def test_kinds(self):
        for kinds in ("", ",", "day,", ",day", "day,,day", "Day", "day,??", "?,2", "day/size", "abcdefghi", "day:1"):
            self.raises(InvalidText, read_entry, "kinds home " + kinds)

    def test_steps(self):
        for steps in ("/", "unnest 0 /", "/ unnest 0", "unnest 0 / / unnest 0", "unnest", "nest 0", "nest 0 2,1", "nest 0 1,1",
                      "unnest 00", "unnest -1", "turn 0", "nest 0 1 2", "unnest 0 unnest 0", "unnest 0/unnest 0", "nest 0 "):
            self.raises(InvalidText, read_entry, "steps go " + steps)

    def test_forms(self):
        for rows in ("/", "0 day:1 /", "/ 0 day:1", "0 day:1 / / 1 size:0", "0", "day:1", "0 day", "0 day:", "0 :1", "0 day:01",
                     "00 day:1", "0 day:1 1 size:0", "0 day:1/ 1 size:0", "0 day:1 / 1", "0 Day:1", "x day:1", "0 day:1 "):
            self.raises(InvalidText, read_entry, "enter ann home " + rows)
        for rows in ("1 day:1", "0 day:1 / 2 size:0", "0 day:1 / 1 size:0 / 3 day:0"):
            self.raises(InvalidForm, read_entry, "enter ann home " + rows)

    def test_the_text_comes_before_the_form(self):
        for line in ("enter Ann home 1 day:1", "enter ann Home 1 day:1", "enter ann home 1 day:1 / 0 day",
                     "enter ann home 1 day:1 /", "enter ann home 1 day:1 / 0 day:1  day:1"):
            self.raises(InvalidText, read_entry, line)

    def test_what_is_read_is_the_writing(self):
        chance = random.Random(25)
        words = ["enter", "leave", "steps", "kinds", "ann", "home", "0", "1", "/", "day:1", "size:0", "unnest", "nest", "0,1", "?"]
        read = 0
        for _ in range(30000):
            line = " ".join(chance.choice(words) for _ in range(chance.randint(1, 7)))
            if chance.random() < 0.6:
                line = chance.choice(("enter ann home ", "steps go ", "enter ann home 0 day:1 ")) + line
            try:
                entry = read_entry(line)
            except (InvalidText, InvalidForm):
                continue
            read += 1
            self.assertEqual(write_entry(entry), line)
            self.assertEqual(read_entry(write_entry(entry)), entry)
        self.assertGreater(read, 200)

    def test_freshness(self):
        for entry, line in ENTRIES:
            self.unchanging(write_entry, entry)
            self.unchanging(read_entry, line)
