"""Places, links and walks (points 59 and 60)."""

import itertools
import random

from formroads.errors import DuplicateName, UnknownName
from formroads.places import Places
from tests.samples import Case, sample_book

PLAIN = ("a", "b", "c", "d")


def plain_places(names, links, kinds=()):
    kinds = list(kinds) + ["?"] * len(names)
    return Places(sample_book(), list(zip(names, kinds)), links)


def walks_from(links, place, most):
    """All walks of at most `most` links from a place, each with the numbers of its links."""
    found = [([place], [])]
    latest = found
    for _ in range(most):
        latest = [
            (walk + [second], numbers + [number])
            for walk, numbers in latest for number, (first, second) in enumerate(links) if first == walk[-1]
        ]
        found = found + latest
    return [(walk, numbers) for walk, numbers in found if numbers]


def plain_walk(links, first, second, names):
    """The walk by the words of point 60: the fewest links, then the earliest ones."""
    fitting = [
        (len(numbers), numbers, walk) for walk, numbers in walks_from(links, first, len(names)) if walk[-1] == second]
    return min(fitting)[2] if fitting else None


def plain_reached(links, place):
    """The places reached by the words of point 60."""
    found = [second for first, second in links if first == place]
    found = list(dict.fromkeys(found))
    at = 0
    while at < len(found):
        found = list(dict.fromkeys(found + [second for first, second in links if first == found[at]]))
        at += 1
    return found


class WalksTest(Case):
    def check_links(self, names, links):
        places = plain_places(names, links)
        links = list(dict.fromkeys(links))
        self.assertEqual(places.links, tuple(links))
        for first in names:
            self.assertEqual(places.reached_from(first), plain_reached(links, first))
            for second in names:
                self.assertEqual(places.walk(first, second), plain_walk(links, first, second, names))

    def test_three_places(self):
        names = PLAIN[:3]
        pairs = list(itertools.product(names, repeat=2))
        for count in range(4):
            for links in itertools.permutations(pairs, count):
                self.check_links(names, list(links))

    def test_four_places(self):
        chance = random.Random(60)
        pairs = list(itertools.product(PLAIN, repeat=2))
        for _ in range(150):
            self.check_links(PLAIN, [chance.choice(pairs) for _ in range(chance.randint(3, 7))])

    def test_by_hand(self):
        links = [("a", "c"), ("a", "b"), ("b", "d"), ("c", "d"), ("d", "a")]
        places = plain_places(PLAIN, links)
        self.assertEqual(places.reached_from("a"), ["c", "b", "d", "a"])
        self.assertEqual(places.walk("a", "d"), ["a", "c", "d"])
        self.assertEqual(places.walk("a", "a"), ["a", "c", "d", "a"])
        self.assertEqual(places.walk("d", "b"), ["d", "a", "b"])

    def test_a_place_without_links(self):
        places = plain_places(PLAIN, [("a", "b")])
        self.assertEqual([places.reached_from(name) for name in PLAIN], [["b"], [], [], []])
        self.assertIsNone(places.walk("b", "a"))
        self.assertIsNone(places.walk("c", "c"))

    def test_a_link_from_a_place_to_itself(self):
        places = plain_places(PLAIN, [("a", "a"), ("a", "b"), ("c", "a")])
        self.assertEqual(places.reached_from("a"), ["a", "b"])
        self.assertEqual(places.walk("a", "a"), ["a", "a"])
        self.assertEqual(places.walk("c", "b"), ["c", "a", "b"])
        self.assertIsNone(places.walk("b", "b"))

    def test_rings(self):
        ring = [("a", "b"), ("b", "c"), ("c", "d"), ("d", "a")]
        places = plain_places(PLAIN, ring)
        self.assertEqual(places.reached_from("b"), ["c", "d", "a", "b"])
        self.assertEqual(places.walk("b", "b"), ["b", "c", "d", "a", "b"])

    def test_tuples_as_places(self):
        names = (("town", 0), ("town", 1), "town", ("hall", "b", 2))
        self.check_links(names, [(names[0], names[3]), (names[3], names[2]), (names[2], names[0])])


class PlacesTest(Case):
    def test_attributes(self):
        book = sample_book()
        rows = [("b", "day"), ("a", "?"), (("c", 1), "month")]
        links = [("a", "b"), ("b", "b"), ("a", "b"), (("c", 1), "a"), ("b", "b")]
        for made in (Places(book, rows, links), Places(book, tuple(rows), tuple(links))):
            self.assertIs(made.book, book)
            self.assertEqual(made.rows, tuple(rows))
            self.assertEqual(made.links, (("a", "b"), ("b", "b"), (("c", 1), "a")))
            self.assertEqual([made.kind_of(place) for place, _ in rows], ["day", "?", "month"])

    def test_no_rows_and_no_links(self):
        empty = Places(sample_book(), [])
        self.assertEqual((empty.rows, empty.links), ((), ()))
        self.raises(UnknownName, empty.kind_of, "a")
        self.assertEqual(Places(sample_book(), [("a", "?")], []).links, ())

    def test_errors(self):
        book = sample_book()
        for rows, links, error in (
            ([("a", "?"), ("a", "day")], [], DuplicateName),
            ([("a", "?"), ("b", "?"), ("a", "?")], [], DuplicateName),
            ([("a", "week"), ("a", "?")], [("b", "b")], DuplicateName),
            ([("a", "?"), ("b", "week"), ("a", "?")], [], DuplicateName),
            ([("a", "week")], [], UnknownName), ([("a", "?"), ("b", "")], [], UnknownName),
            ([("a", "?")], [("a", "b")], UnknownName), ([("a", "?")], [("b", "a")], UnknownName),
            ([("a", "?")], [("a", "a"), ("b", "b")], UnknownName), ([], [("a", "a")], UnknownName),
            ([(("a", 0), "?")], [(("a", 0), ("a", 1))], UnknownName),
        ):
            self.raises_unchanged(error, Places, book, rows, links)

    def test_places_without_a_row(self):
        places = plain_places(PLAIN, [("a", "b")])
        self.raises(UnknownName, places.kind_of, "e")
        self.raises(UnknownName, places.reached_from, "e")
        for first, second in (("e", "a"), ("a", "e"), ("e", "e"), ("c", "e")):
            self.raises(UnknownName, places.walk, first, second)


class FreshnessTest(Case):
    def test_arguments_and_answers(self):
        rows = [("a", "?"), ("b", "day")]
        links = [("a", "b"), ("b", "a")]
        places = Places(sample_book(), rows, links)
        rows.clear()
        links.append(("b", "b"))
        self.assertEqual(places.rows, (("a", "?"), ("b", "day")))
        self.assertEqual(places.links, (("a", "b"), ("b", "a")))
        self.unchanging(places.reached_from, "a")
        self.unchanging(places.walk, "a", "a")
        self.unchanging(places.kind_of, "b")
        self.unchanging(Places, sample_book(), [("a", "?")], [("a", "a")])
