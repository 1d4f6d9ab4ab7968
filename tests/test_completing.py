"""Sound tables and completions (points 61, 62, 63 and 65)."""

import itertools
import random

from formroads.completing import MOST_UNKNOWN, as_told, completion, is_sound, sound_tables
from formroads.errors import Conflict, TooMany
from formroads.kinds import Kindbook
from formroads.places import Places
from tests.kindsamples import CHAIN, TREE, all_books, kinds_of, plain_below
from tests.samples import RECORDS, Case, sample_book
from tests.test_places import plain_reached, plain_walk

NAMES = ("a", "b", "c", "d")


def plain_sound(records, rows, links, table):
    told = all(kind in ("?", table[place]) for place, kind in rows)
    return told and all(plain_below(records, table[first], table[second]) for first, second in links)


def plain_tables(records, rows, links):
    """All sound tables by brute force, in the lexicographic order of their kinds."""
    names = [place for place, _ in rows]
    tables = [dict(zip(names, kinds)) for kinds in itertools.product(kinds_of(records), repeat=len(rows))]
    return [table for table in tables if plain_sound(records, rows, links, table)]


def plain_as_told(records, table, other):
    for place, kind in other.items():
        if kind != "?" and (table[place] == "?" or not plain_below(records, table[place], kind)):
            return False
    return True


def comparable(records, first, second):
    return plain_below(records, first, second) or plain_below(records, second, first)


def plain_conflict(records, rows, links):
    """The walks of the first place in conflict by the words of point 63, or None."""
    kinds = dict(rows)
    for place, kind in rows:
        told = [other for other in plain_reached(links, place) if kinds[other] != "?"]
        if kind != "?":
            wrong = [(other,) for other in told if not plain_below(records, kind, kinds[other])]
        else:
            wrong = [
                pair for pair in itertools.combinations(told, 2)
                if not comparable(records, kinds[pair[0]], kinds[pair[1]])
            ]
        if wrong:
            return tuple(plain_walk(links, place, other, list(kinds)) for other in wrong[0])
    return None


def some_places(chance, records, most):
    """Rows and links by chance."""
    names = NAMES[:most]
    rows = [(name, chance.choice(["?"] + kinds_of(records))) for name in names]
    chance.shuffle(rows)
    links = [(chance.choice(names), chance.choice(names)) for _ in range(chance.randint(1, 4))]
    return rows, links


class SmallPlacesTest(Case):
    def test_by_chance(self):
        for number, (records, book) in enumerate(all_books()):
            chance = random.Random(number)
            for _ in range(80):
                self.check_places(records, book, *some_places(chance, records, 3))
            for _ in range(8):
                self.check_places(records, book, *some_places(chance, records, 4))

    def test_two_places(self):
        pairs = list(itertools.product("ab", repeat=2))
        for records in (RECORDS, CHAIN):
            book = Kindbook(records)
            for kinds in itertools.product(kinds_of(records), repeat=2):
                for count in (0, 1, 2):
                    for links in itertools.combinations(pairs, count):
                        self.check_places(records, book, list(zip("ab", kinds)), links)

    def check_places(self, records, book, rows, links):
        places = Places(book, rows, links)
        wanted = plain_tables(records, rows, links)
        tables = list(sound_tables(places))
        self.assertEqual(tables, wanted)
        for table in tables:
            self.assertEqual(list(table), [place for place, _ in rows])
        walks = plain_conflict(records, rows, links)
        self.assertEqual(walks is None, bool(wanted))
        if walks is None:
            found = completion(places)
            self.assertEqual(list(found.items()), list(wanted[0].items()))
            for table in wanted:
                self.assertTrue(as_told(places, table, found))
        else:
            self.assertEqual(self.raises(Conflict, completion, places).walks, walks)

    def test_tables(self):
        chance = random.Random(61)
        for records, book in all_books():
            for _ in range(4):
                rows, links = some_places(chance, records, 2)
                places = Places(book, rows, links)
                tables = [dict(zip("ab", kinds)) for kinds in itertools.product(kinds_of(records), repeat=2)]
                for table in tables:
                    self.assertEqual(is_sound(places, table), plain_sound(records, rows, links, table))
                    for other in tables:
                        self.assertEqual(as_told(places, table, other), plain_as_told(records, table, other))


class CompletionTest(Case):
    def made(self, rows, links, records=RECORDS):
        return completion(Places(Kindbook(records), rows, links))

    def test_by_hand(self):
        # A place that reaches no told place, one that reaches several comparable kinds, and told places.
        self.assertEqual(self.made([("a", "?"), ("b", "?"), ("c", "day"), ("d", "month")], [
            ("b", "d"), ("b", "c"), ("c", "d")]), {"a": "?", "b": "day", "c": "day", "d": "month"})
        self.assertEqual(self.made([("a", "?"), ("b", "?"), ("c", "month")], [("a", "b"), ("b", "c")]), {
            "a": "month", "b": "month", "c": "month"})
        self.assertEqual(self.made([("a", "?"), ("b", "day")], [("b", "a")]), {"a": "?", "b": "day"})

    def test_kinds_that_the_unknown_kind_is_below(self):
        # All kinds of the chain are below the year, but not below the half.
        self.assertEqual(self.made([("a", "?"), ("b", "year")], [("a", "b")], CHAIN), {"a": "?", "b": "year"})
        self.assertEqual(self.made([("a", "?"), ("b", "half")], [("a", "b")], CHAIN), {"a": "half", "b": "half"})
        self.assertEqual(self.made([("a", "?"), ("b", "half"), ("c", "year")], [("a", "c"), ("a", "b")], CHAIN), {
            "a": "half", "b": "half", "c": "year"})
        self.assertEqual(self.made([("a", "?"), ("b", "root")], [("a", "b")], TREE), {"a": "?", "b": "root"})

    def test_no_rows_and_no_links(self):
        self.assertEqual(self.made([], []), {})
        self.assertEqual(list(sound_tables(Places(sample_book(), []))), [{}])
        self.assertEqual(self.made([("b", "?"), ("a", "day")], []), {"b": "?", "a": "day"})

    def test_rings(self):
        ring = [("a", "b"), ("b", "c"), ("c", "a")]
        self.assertEqual(self.made([("a", "?"), ("b", "day"), ("c", "?")], ring), {"a": "day", "b": "day", "c": "day"})
        self.assertEqual(self.made([("a", "?")], [("a", "a")]), {"a": "?"})
        self.assertEqual(self.made([("a", "day")], [("a", "a")]), {"a": "day"})

    def conflict(self, rows, links):
        return self.raises(Conflict, completion, Places(sample_book(), rows, links)).walks

    def test_told_places_in_conflict(self):
        self.assertEqual(self.conflict([("a", "month"), ("b", "day")], [("a", "b")]), (["a", "b"],))
        self.assertEqual(self.conflict([("a", "size"), ("b", "?"), ("c", "day")], [("a", "b"), ("b", "c")]), (
            ["a", "b", "c"],))
        # The first told place in the order of `reached_from` that does not fit.
        rows = [("a", "day"), ("b", "month"), ("c", "size"), ("d", "size")]
        self.assertEqual(self.conflict(rows, [("a", "b"), ("b", "d"), ("a", "c")])[0], ["a", "c"])

    def test_unknown_places_in_conflict(self):
        rows = [("a", "?"), ("b", "month"), ("c", "size"), ("d", "day")]
        self.assertEqual(self.conflict(rows, [("a", "b"), ("a", "c")]), (["a", "b"], ["a", "c"]))
        self.assertEqual(self.conflict(rows, [("a", "c"), ("a", "b"), ("a", "d")]), (["a", "c"], ["a", "b"]))
        # The earliest first place counts before the earliest second one.
        self.assertEqual(self.conflict(rows, [("a", "b"), ("a", "d"), ("a", "c")]), (["a", "b"], ["a", "c"]))
        self.assertEqual(self.conflict([("a", "?"), ("b", "size"), ("c", "?"), ("d", "day")], [
            ("a", "c"), ("c", "b"), ("c", "d")]), (["a", "c", "b"], ["a", "c", "d"]))

    def test_the_first_place_in_conflict(self):
        links = [("a", "b"), ("c", "b"), ("c", "d"), ("d", "b")]
        rows = [("a", "month"), ("b", "day"), ("c", "?"), ("d", "size")]
        self.assertEqual(self.conflict(rows, links), (["a", "b"],))
        self.assertEqual(self.conflict(rows[::-1], links), (["d", "b"],))
        self.assertEqual(self.conflict(rows[2:] + rows[:2], links), (["c", "b"], ["c", "d"]))


class SoundTablesTest(Case):
    def test_at_most_four_unknown_places(self):
        self.assertEqual(MOST_UNKNOWN, 4)
        four = Places(sample_book(), [(name, "?") for name in "abcd"] + [("e", "day"), ("f", "day")])
        self.assertEqual(len(list(sound_tables(four))), 4 ** 4)
        five = Places(sample_book(), [(name, "?") for name in "abcde"])
        for most in (None, 0, 1, 100):
            self.raises(TooMany, list, sound_tables(five, most=most))
        # A conflict does not matter.
        rows = [(name, "?") for name in "abcde"] + [("f", "day"), ("g", "month")]
        self.raises(TooMany, list, sound_tables(Places(sample_book(), rows, [("g", "f")])))

    def test_the_first_ones(self):
        places = Places(sample_book(), [("a", "?"), ("b", "?"), ("c", "month")], [("a", "c")])
        tables = list(sound_tables(places))
        self.assertEqual([tuple(table.values()) for table in tables], [
            (first, second, "month") for first in ("month", "day") for second in ("?", "month", "day", "size")])
        for most in range(10):
            self.assertEqual(list(sound_tables(places, most=most)), tables[:most])
        self.assertEqual(list(sound_tables(places, most=None)), tables)

    def test_most_is_passed_by_keyword(self):
        self.raises(TypeError, sound_tables, Places(sample_book(), []), 1)

    def test_many_told_places(self):
        rows = [(("town", number), "day") for number in range(40)]
        links = [(("town", number), ("town", number + 1)) for number in range(39)]
        self.assertEqual(list(sound_tables(Places(sample_book(), rows, links))), [dict(rows)])

    def test_no_sound_tables(self):
        places = Places(sample_book(), [("a", "month"), ("b", "day")], [("a", "b")])
        self.assertEqual(list(sound_tables(places)), [])


class FreshnessTest(Case):
    def test_answers(self):
        places = Places(sample_book(), [("a", "?"), ("b", "?"), ("c", "month")], [("a", "c")])
        self.unchanging(completion, places)
        self.unchanging(lambda places: list(sound_tables(places)), places)
        self.unchanging(is_sound, places, {"a": "day", "b": "?", "c": "month"})
        self.unchanging(as_told, places, {"a": "day", "b": "?", "c": "month"}, {"a": "?", "b": "?", "c": "month"})

    def test_tables_do_not_depend_on_each_other(self):
        places = Places(sample_book(), [("a", "?"), ("b", "?"), ("c", "month")], [("a", "c")])
        wanted = list(sound_tables(places))
        found = []
        for table in sound_tables(places):
            found.append(dict(table))
            table.clear()
        self.assertEqual(found, wanted)

    def test_what_an_error_carries(self):
        places = Places(sample_book(), [("a", "?"), ("b", "day"), ("c", "size")], [("a", "b"), ("a", "c")])
        walks = self.raises(Conflict, completion, places).walks
        walks[0].clear()
        self.assertEqual(self.raises(Conflict, completion, places).walks, (["a", "b"], ["a", "c"]))
        self.raises_unchanged(Conflict, completion, places)
