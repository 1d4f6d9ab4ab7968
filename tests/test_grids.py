"""Routes, squares of ways and editions, and exchanges (points 106 to 108)."""

import itertools
import random

from formroads.editions import Editions
from formroads.errors import InvalidMove, NotJoined, UnknownName
from formroads.grids import (
    all_moves, exchanges, grid_difference, route, route_difference, square_difference, squares_between,
)
from formroads.webs import Web
from tests.editionsamples import (
    DAYS, NEST, SIZES, difference_of, facts_of, plain_route, same_ways, some_editions,
)
from tests.roadsamples import SMALL, plain_road, sample_schema
from tests.samples import Case, plain_outline
from tests.test_stops import BITS
from tests.websamples import plain_roads

FLAT = sample_schema(((0, 1),), ("day", "?"))
OPEN = sample_schema(((0, 1),), ("?", "?"))
DEEP = sample_schema(((0,), (1,)), ("?", "?"))


def changed_web():
    """A road of two ways in three editions: first the middle, then the end is told more."""
    web = Web.of(FLAT.book, [("a", FLAT), ("b", OPEN), ("c", DEEP)], [
        ("one", "red", "a", "b", []), ("two", "blue", "b", "c", NEST), ("far", "red", "a", "c", NEST)])
    editions = Editions(web)
    editions.change_kinds("b", ("month", "?"))
    editions.change_kinds("c", ("month", "size"))
    return editions


def small_editions(number):
    """Editions of small webs by chance, with the records of their kinds."""
    for seed, (records, count) in enumerate(((SMALL, 1), (BITS, 2), (SMALL, 2), (SMALL, 1))):
        chance = random.Random(seed)
        for _ in range(number):
            yield chance, records, some_editions(chance, records, count, chance.randint(2, 4), 5, 5)


def called(function, *arguments, **keywords):
    """What the function returns or which error it raises."""
    try:
        return function(*arguments, **keywords)
    except (InvalidMove, UnknownName, NotJoined) as error:
        return type(error)


class MovesTest(Case):
    def test_all_moves(self):
        for ways, turns in itertools.product(range(5), repeat=2):
            wanted = sorted(set(map("".join, itertools.permutations("w" * ways + "t" * turns))))
            self.assertEqual(list(all_moves(ways=ways, turns=turns)), wanted)
        self.assertEqual(list(all_moves(ways=1, turns=2)), ["ttw", "twt", "wtt"])
        self.assertEqual(list(all_moves(ways=0, turns=0)), [""])

    def test_many_moves_are_not_all_made(self):
        found = iter(all_moves(ways=40, turns=40))
        self.assertEqual(next(found), "t" * 40 + "w" * 40)
        self.assertEqual(next(found), "t" * 39 + "wt" + "w" * 39)


class RouteTest(Case):
    def test_by_chance(self):
        done = 0
        for chance, _, editions in small_editions(12):
            for names in plain_roads(editions.web_at(0)):
                for edition in range(editions.latest() + 1):
                    moves = list("w" * chance.randint(0, len(names)) + "t" * chance.randint(0, editions.latest() - edition))
                    chance.shuffle(moves)
                    found = route(editions, names, "".join(moves), edition)
                    self.assertIsInstance(found, list)
                    self.assertTrue(same_ways(list(map(facts_of, found)), plain_route(editions, names, moves, edition)))
                    done += len(moves) > 2
        self.assertGreater(done, 50)

    def test_by_hand(self):
        editions = changed_web()
        found = route(editions, ("one", "two"), "wtwt", 0)
        self.assertEqual([(way.name, way.label) for way in found], [("one", "red"), ("b", "b"), ("two", "blue"), ("c", "c")])
        self.assertEqual([way.end.kinds for way in found], [("?", "?"), ("month", "?"), ("?", "?"), ("month", "size")])
        found = route(editions, ["one", "two"], "twt", 0)
        self.assertEqual([way.name for way in found], ["a", "one", "b"])
        self.assertEqual([way.end.kinds for way in found], [("day", "?"), ("month", "?"), ("month", "?")])
        self.assertEqual([way.name for way in route(editions, ["two"], "t", 1)], ["b"])
        self.assertEqual(route(editions, ["two"], "", 2), [])
        # One edition is enough for a road.
        editions = Editions(editions.web_at(0))
        self.assertEqual([way.name for way in route(editions, ("one", "two"), "ww", 0)], ["one", "two"])
        self.assertIsNone(grid_difference(editions, ("one", "two"), 0))
        self.assertIsNone(route_difference(editions, ("one", "two"), "ww", "ww"))

    def test_errors_in_their_order(self):
        editions = changed_web()
        for names, moves, edition, error in (
            (("x",), "w", 0, UnknownName), (("x",), "y", 9, UnknownName), ((), "", 0, NotJoined), ((), "y", 9, NotJoined),
            (("two", "one"), "y", 9, NotJoined), (("two", "one", "x"), "w", 0, UnknownName),
            (("one",), "", 3, InvalidMove), (("one",), "", -1, InvalidMove), (("one",), "x", 0, InvalidMove),
            (("one",), "ww", 0, InvalidMove), (("one", "two"), "www", 0, InvalidMove), (("one",), "ttt", 0, InvalidMove),
            (("one",), "tt", 1, InvalidMove), (("one",), "t", 2, InvalidMove), (("one",), "W", 0, InvalidMove),
            (("one",), "w ", 0, InvalidMove), (("one",), "wx", 0, InvalidMove),
        ):
            self.raises_unchanged(error, route, editions, names, moves, edition)


class SquareTest(Case):
    def test_by_chance(self):
        told = []
        for _, records, editions in small_editions(12):
            for name in editions.web_at(0).way_names():
                for edition in range(editions.latest()):
                    told.append(self.check_square(records, editions, name, edition))
                for edition in (-1, editions.latest(), editions.latest() + 1):
                    self.raises_unchanged(InvalidMove, square_difference, editions, name, edition)
        self.assertGreater(told.count(True), 50)
        self.assertGreater(told.count(False), 10)

    def check_square(self, records, editions, name, edition):
        first, second = [route(editions, (name,), moves, edition) for moves in ("wt", "tw")]
        form = square_difference(editions, name, edition)
        self.assertEqual(form is None, not difference_of(records, first, second, 2))
        if form is not None:
            self.assertTrue(first[0].start.fits(form))
            self.assertLessEqual(len(plain_outline(form)), 2)
            self.assertNotEqual(plain_road(records, first, form), plain_road(records, second, form))
        return form is None

    def test_by_hand(self):
        editions = changed_web()
        # The turn of the middle or the way into it makes months of days; no form that fits the start is stopped.
        self.assertIsNone(square_difference(editions, "one", 0))
        # A size stops at the turn of the middle or at the turn of the start of the way.
        form = square_difference(editions, "two", 0)
        self.assertTrue(OPEN.fits(form))
        self.assertIsNone(square_difference(editions, "one", 1))
        form = square_difference(editions, "two", 1)
        self.assertEqual({way.name: way for way in route(editions, ["two"], "wt", 1)}["c"].label, "c")
        self.assertNotEqual(*[plain_road(
            [("month", 2, None, ()), ("day", 3, "month", (0, 0, 1)), ("size", 2, None, ())], taken, form)
            for taken in (route(editions, ["two"], "wt", 1), route(editions, ["two"], "tw", 1))])
        for edition in (0, 1, 9):
            self.raises_unchanged(UnknownName, square_difference, editions, "x", edition)
            self.raises_unchanged(UnknownName, square_difference, editions, "a", edition)
        self.raises_unchanged(InvalidMove, square_difference, editions, "one", 2)


class GridTest(Case):
    def test_by_chance(self):
        told = []
        for _, records, editions in small_editions(10):
            for names in plain_roads(editions.web_at(0)):
                for edition in range(editions.latest() + 1):
                    told.append(self.check_grid(records, editions, names, edition))
        self.assertGreater(told.count(True), 20)
        self.assertGreater(told.count(False), 20)

    def check_grid(self, records, editions, names, edition):
        wanted = None
        for name in names:
            for number in range(edition, editions.latest()):
                if wanted is None and square_difference(editions, name, number) is not None:
                    wanted = (name, number)
        found = grid_difference(editions, names, edition)
        if wanted is None:
            self.assertIsNone(found)
            self.check_routes(records, editions, names, edition)
            return True
        self.assertEqual(found[:2], wanted)
        self.assertTrue(route(editions, found[:1], "w", found[1])[0].start.fits(found[2]))
        taken = [route(editions, found[:1], moves, found[1]) for moves in ("wt", "tw")]
        self.assertNotEqual(*[plain_road(records, ways, found[2]) for ways in taken])
        return False

    def check_routes(self, records, editions, names, edition):
        """All routes with the same ends are alike."""
        turns = editions.latest() - edition
        for ways in range(1, len(names) + 1):
            found = [route(editions, names, moves, edition) for moves in all_moves(ways=ways, turns=turns)]
            for taken in found[1:3]:
                self.assertFalse(difference_of(records, found[0], taken, 1))

    def test_errors(self):
        editions = changed_web()
        for names, edition, error in (
            (("x",), 9, UnknownName), ((), 9, NotJoined), (("two", "one"), 0, NotJoined), (["one", "x"], 0, UnknownName),
            (("one",), 3, InvalidMove), (("one",), -1, InvalidMove), (("one", "two"), 9, InvalidMove),
        ):
            self.raises_unchanged(error, grid_difference, editions, names, edition)
        self.assertIsNone(grid_difference(editions, ("one", "two"), 2))
        self.assertEqual(grid_difference(editions, ("one", "two"), 0)[:2], ("two", 0))
        self.assertEqual(grid_difference(editions, ["one", "two"], 1)[:2], ("two", 1))


class SquaresBetweenTest(Case):
    def plain_squares(self, names, first, second, edition):
        """The squares by the words of point 108."""
        taken = []
        for moves in (first, second):
            here, editions = edition, []
            for move in moves:
                if move == "t":
                    here += 1
                else:
                    editions.append(here)
            taken.append(editions)
        found = []
        for way, one, other in zip(names, *taken):
            for number in range(edition, edition + len(first) + 1):
                if one <= number < other or other <= number < one:
                    found.append((way, number))
        return found

    def test_by_chance(self):
        names = ("one", "two", "three", "four")
        for ways, turns in ((0, 0), (0, 3), (2, 0), (1, 2), (2, 2), (3, 2), (4, 1)):
            for first, second in itertools.product(all_moves(ways=ways, turns=turns), repeat=2):
                for edition in (0, 3):
                    wanted = self.plain_squares(names, first, second, edition)
                    self.assertEqual(squares_between(names, first, second, edition=edition), wanted)
        self.assertEqual(squares_between(("one",), "wtt", "ttw"), [("one", 0), ("one", 1)])
        self.assertEqual(squares_between(["one", "two"], "wwt", "tww", edition=5), [("one", 5), ("two", 5)])
        self.assertEqual(squares_between(["one", "two"], "tww", "wwt"), [("one", 0), ("two", 0)])

    def test_errors(self):
        for names, first, second in (
            (("one",), "wx", "wx"), (("one",), "w", "x"), (("one",), "w", ""), (("one",), "wt", "tt"),
            (("one",), "wt", "wtt"), (("one",), "ww", "ww"), ((), "wt", "tw"), (("one", "two"), "wwwt", "twww"),
            (("one",), "W", "W"), (("one",), "t", "w"),
        ):
            self.raises_unchanged(InvalidMove, squares_between, names, first, second)
            if names == ("one",) and "ww" not in first:
                self.raises_unchanged(InvalidMove, exchanges, first, second)
        # Nothing else is checked: neither names nor editions.
        self.assertEqual(squares_between(("x", "x"), "wt", "tw", edition=99), [("x", 99)])


class ExchangesTest(Case):
    def plain_exchanges(self, first, second):
        """The strings by the words of point 108."""
        found = [first]
        while found[-1] != second:
            last = found[-1]
            p = min(at for at in range(len(last)) if last[at] != second[at])
            q = min(at for at in range(p + 1, len(last)) if last[at] == second[p])
            found.append(last[:q - 1] + last[q] + last[q - 1] + last[q + 1:])
        return found

    def test_all_small_strings(self):
        for ways, turns in itertools.product(range(4), repeat=2):
            for first, second in itertools.product(all_moves(ways=ways, turns=turns), repeat=2):
                found = exchanges(first, second)
                self.assertEqual(found, self.plain_exchanges(first, second))
                names = ("one", "two", "three")
                steps = [squares_between(names, one, other) for one, other in zip(found, found[1:])]
                self.assertEqual([len(step) for step in steps], [1] * len(steps))
                self.assertEqual(sorted(sum(steps, [])), sorted(squares_between(names, first, second)))
                self.assertEqual(len(set(found)), len(found))

    def test_by_hand(self):
        self.assertEqual(exchanges("wwt", "tww"), ["wwt", "wtw", "tww"])
        self.assertEqual(exchanges("tww", "wwt"), ["tww", "wtw", "wwt"])
        self.assertEqual(exchanges("", ""), [""])
        self.assertEqual(exchanges("wt", "wt"), ["wt"])
        self.assertEqual(exchanges("ttww", "wwtt"), ["ttww", "twtw", "wttw", "wtwt", "wwtt"])


class RouteDifferenceTest(Case):
    def test_by_chance(self):
        told = []
        for chance, records, editions in small_editions(12):
            roads = plain_roads(editions.web_at(0))
            for _ in range(12 if roads else 0):
                names, edition = chance.choice(roads), chance.randint(0, editions.latest())
                edition = chance.choice((edition, 0))
                ways, turns = chance.choice((len(names), 1, 0)), chance.randint(0, editions.latest() - edition)
                first, second = [chance.choice(list(all_moves(ways=ways, turns=turns))) for _ in range(2)]
                told.append(self.check_routes(records, editions, names, first, second, edition))
        self.assertGreater(told.count(True), 30)
        self.assertGreater(told.count(False), 10)

    def check_routes(self, records, editions, names, first, second, edition):
        routes = [route(editions, names, moves, edition) for moves in (first, second)]
        form = route_difference(editions, names, first, second, edition=edition)
        if not routes[0]:
            self.assertIsNone(form)
            return True
        self.assertEqual(form is None, not difference_of(records, *routes, 2))
        if form is not None:
            self.assertTrue(routes[0][0].start.fits(form))
            self.assertLessEqual(len(plain_outline(form)), 2)
            self.assertNotEqual(*[plain_road(records, ways, form) for ways in routes])
        squares = squares_between(names, first, second, edition=edition)
        if all(square_difference(editions, *square) is None for square in squares):
            self.assertIsNone(form)
        return form is None

    def test_errors_in_their_order(self):
        editions = changed_web()
        for names, first, second, edition, error in (
            (("x",), "w", "w", 9, UnknownName), ((), "", "", 0, NotJoined), (("one",), "w", "w", 9, InvalidMove),
            (("one",), "x", "w", 0, InvalidMove), (("one",), "w", "x", 0, InvalidMove), (("one",), "w", "t", 0, InvalidMove),
            (("one",), "wt", "w", 0, InvalidMove), (("one",), "", "t", 0, InvalidMove), (("one",), "t", "", 0, InvalidMove),
            (("one",), "ttt", "ttt", 0, InvalidMove), (("one",), "ww", "ww", 0, InvalidMove),
            (("one",), "tt", "tt", 1, InvalidMove),
        ):
            self.assertEqual(called(route_difference, editions, names, first, second, edition=edition), error)
        self.assertIsNone(route_difference(editions, ("one",), "", ""))
        self.assertIsNone(route_difference(editions, ["one", "two"], "wtwt", "wtwt"))
        self.assertIsNone(route_difference(editions, ["one", "two"], "", "", edition=2))

    def test_a_road_of_three_editions(self):
        editions = changed_web()
        for first, second in itertools.product(all_moves(ways=2, turns=2), repeat=2):
            form = route_difference(editions, ("one", "two"), first, second)
            squares = squares_between(("one", "two"), first, second)
            self.assertEqual(form is None or not [square for square in squares if square[0] == "two"], form is None)
        form = route_difference(editions, ("one", "two"), "wwtt", "ttww")
        self.assertTrue(FLAT.fits(form))
        self.assertIsNone(route_difference(editions, ("one", "two"), "wtt", "ttw"))


class FreshnessTest(Case):
    def test_answers_and_arguments(self):
        editions = changed_web()
        names = ["one", "two"]
        self.unchanging(route, editions, names, "wtwt", 0)
        self.unchanging(square_difference, editions, "two", 0)
        self.unchanging(grid_difference, editions, names, 0)
        self.unchanging(squares_between, names, "wwtt", "ttww")
        self.unchanging(exchanges, "wwtt", "ttww")
        self.unchanging(route_difference, editions, names, "wwtt", "ttww")
        self.assertEqual((DAYS[0], SIZES[0]), (("day", 0), ("size", 0)))
