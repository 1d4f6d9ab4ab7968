"""Walks that show that there is no sound table (point 64)."""

import itertools
import random

from formroads.clashes import check_walks
from formroads.completing import completion
from formroads.errors import Conflict
from formroads.places import Places
from tests.kindsamples import all_books, plain_below
from tests.samples import Case, sample_book
from tests.test_completing import comparable, plain_tables, some_places
from tests.test_places import walks_from

ROWS = [("a", "?"), ("b", "month"), ("c", "size"), ("d", "day"), ("e", "?")]
LINKS = [("a", "b"), ("a", "c"), ("d", "c"), ("b", "d"), ("d", "b"), ("a", "e"), ("e", "a"), ("a", "d"), ("e", "e")]


def plain_check(records, rows, walks):
    """What point 64 says of walks that are walks."""
    kinds = dict(rows)
    ends = [kinds[walk[-1]] for walk in walks]
    if len(walks) == 1:
        told = kinds[walks[0][0]] != "?" and ends[0] != "?"
        return told and not plain_below(records, kinds[walks[0][0]], ends[0])
    if len(walks) == 2:
        start = walks[0][0]
        fitting = start == walks[1][0] and kinds[start] == "?" and "?" not in ends
        return fitting and not comparable(records, *ends)
    return False


class CheckWalksTest(Case):
    def setUp(self):
        self.places = Places(sample_book(), ROWS, LINKS)

    def test_one_walk(self):
        for walk, wanted in (
            (["d", "c"], True), (["b", "d"], True), (["b", "d", "c"], True), (["d", "b", "d", "c"], True),
            # The kind of the first place is below that of the last one, or one of them is unknown.
            (["d", "b"], False), (["d", "b", "d"], False), (["a", "b"], False), (["a", "e"], False), (["e", "e"], False),
        ):
            self.assertIs(check_walks(self.places, [walk]), wanted, walk)
            self.assertIs(check_walks(self.places, (walk,)), wanted, walk)

    def test_two_walks(self):
        for first, second, wanted in (
            (["a", "b"], ["a", "c"], True), (["a", "c"], ["a", "b"], True), (["a", "e", "a", "d"], ["a", "c"], True),
            # Comparable kinds, the same walk, another start, a told start, and an unknown end.
            (["a", "b"], ["a", "d"], False), (["a", "c"], ["a", "c"], False), (["a", "b"], ["e", "a", "c"], False),
            (["d", "b"], ["d", "c"], False), (["a", "e"], ["a", "c"], False), (["a", "c"], ["a", "e"], False),
        ):
            self.assertIs(check_walks(self.places, (first, second)), wanted, (first, second))
            self.assertIs(check_walks(self.places, [first, second]), wanted)

    def test_lists_that_are_no_walks(self):
        good = ["a", "b"]
        for walk in (["a"], [], ["b", "c"], ["c", "d"], ["a", "b", "c"], ["c"], ["x"], ["x", "y"], ["a", "x"], ["x", "c"],
                     ["b", "x", "c"], [("a", 0), "c"]):
            for walks in ([walk], [walk, ["a", "c"]], [good, walk], [walk, walk]):
                self.assertIs(check_walks(self.places, walks), False, walks)

    def test_other_numbers_of_walks(self):
        self.assertIs(check_walks(self.places, []), False)
        self.assertIs(check_walks(self.places, ()), False)
        self.assertIs(check_walks(self.places, [["a", "b"], ["a", "c"], ["a", "d"]]), False)
        self.assertIs(check_walks(self.places, [["d", "c"], ["d", "c"], ["b", "d"]]), False)
        self.assertIs(check_walks(self.places, [["d", "c"], ["b", "d"]]), False)
        self.assertIs(check_walks(Places(sample_book(), []), []), False)

    def test_by_chance(self):
        chance = random.Random(64)
        for records, book in all_books():
            for _ in range(12):
                rows, links = some_places(chance, records, 3)
                places = Places(book, rows, links)
                links = list(dict.fromkeys(links))
                walks = [walk for place, _ in rows for walk, _ in walks_from(links, place, 2)]
                for walk in walks:
                    self.assertIs(check_walks(places, [walk]), plain_check(records, rows, [walk]))
                for pair in list(itertools.product(walks, repeat=2))[:150]:
                    self.assertIs(check_walks(places, pair), plain_check(records, rows, pair))
                    if check_walks(places, pair):
                        self.assertEqual(plain_tables(records, rows, links), [])

    def test_walks_of_conflicts(self):
        chance = random.Random(65)
        for records, book in all_books():
            for _ in range(40):
                places = Places(book, *some_places(chance, records, 4))
                try:
                    completion(places)
                except Conflict as conflict:
                    self.assertIs(check_walks(places, conflict.walks), True)

    def test_freshness(self):
        self.unchanging(check_walks, self.places, [["a", "b"], ["a", "c"]])
        self.unchanging(check_walks, self.places, [["a", "x"]])
