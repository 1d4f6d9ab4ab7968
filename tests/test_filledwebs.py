"""Webs whose unknown kinds are completed (point 95)."""

import itertools
import random

from formroads.completing import completion
from formroads.errors import Clash, Conflict
from formroads.filledwebs import filled, places_of
from formroads.places import Places
from formroads.rules import Rules
from formroads.schemas import Schema
from formroads.webs import Web
from tests.kindsamples import ALL_RECORDS, kinds_of, plain_led
from tests.roadsamples import SMALL, sample_schema, some_schema
from tests.samples import Case, plain, sample_book
from tests.test_stops import BITS
from tests.websamples import sample_web, some_web, with_some_way

ONE = sample_schema(((0,),), ("?",))


def row_of(*kinds):
    """A web of offices of one column with these kinds and no ways."""
    return Web.of(sample_book(), [(name, ONE.with_kinds((kind,))) for name, kind in zip("abcdef", kinds)], [])


def linked(web, *pairs):
    for number, (start, end) in enumerate(pairs):
        web = web.with_way("stuvwxyz"[number], "red", start, end, [])
    return web


class PlacesTest(Case):
    def test_by_hand(self):
        web = sample_web().with_office("alone", ONE).with_way(
            "again", "blue", "home", "town", [("nest", 0, (1,))])
        places = places_of(web)
        self.assertIsInstance(places, Places)
        self.assertEqual(places.rows, (
            (("home", 0), "day"), (("home", 1), "?"), (("town", 0), "month"), (("town", 1), "size"), (("alone", 0), "?")))
        self.assertEqual(places.links, ((("home", 0), ("town", 0)), (("home", 1), ("town", 1))))
        self.assertEqual((places_of(Web(web.book)).rows, places_of(Web(web.book)).links), ((), ()))

    def test_by_chance(self):
        for number, records in enumerate(ALL_RECORDS):
            chance = random.Random(number)
            for _ in range(10):
                count = chance.randint(1, 4)
                web = some_web(chance, records, count, 4, 5)
                places = places_of(web)
                self.assertEqual(places.rows, tuple(
                    ((name, column), web.office(name).kinds[column])
                    for name in web.office_names() for column in range(count)))
                links = []
                for name in web.way_names():
                    start, end = web.ends(name)
                    links += [((start, column), (end, column)) for column in range(count)]
                self.assertEqual(places.links, tuple(dict.fromkeys(links)))


class FilledTest(Case):
    def check_filled(self, records, web):
        result = filled(web)
        self.assertIsInstance(result, Web)
        self.assertEqual((result.office_names(), result.way_names()), (web.office_names(), web.way_names()))
        table = completion(places_of(web))
        for name in web.office_names():
            schema = result.office(name)
            self.assertEqual((schema.shape, schema.rules), (web.office(name).shape, Rules()))
            self.assertEqual(schema.kinds, tuple(table[name, column] for column in range(len(schema.kinds))))
        for name in web.way_names():
            way, old = result.way(name), web.way(name)
            self.assertEqual((way.name, way.label, way.steps, result.ends(name)), (name, old.label, old.steps, web.ends(name)))
            for kind, target in zip(way.start.kinds, way.end.kinds):
                for value in web.book.members(kind):
                    self.assertIsNotNone(plain_led(records, value, target))

    def test_by_chance(self):
        told = []
        for number, records in enumerate(ALL_RECORDS + [SMALL, BITS]):
            chance = random.Random(number)
            for _ in range(25):
                web = self.some_open_web(chance, records, chance.randint(1, 2))
                try:
                    completion(places_of(web))
                except Conflict as error:
                    found = self.raises(Conflict, filled, web)
                    self.assertEqual(found.walks, error.walks)
                    told.append(False)
                else:
                    self.check_filled(records, web)
                    told.append(True)
        self.assertGreater(told.count(True), 20)
        self.assertGreater(told.count(False), 10)

    def some_open_web(self, chance, records, count):
        """A web many of whose columns are unknown, so that all kinds may meet there."""
        offices = chance.randint(2, 6)
        web = Web(some_schema(chance, records, count).book)
        for name in "abcdef"[:offices]:
            schema = some_schema(chance, records, count)
            kinds = [chance.choice(("?", kind)) for kind in schema.kinds]
            web = web.with_office(name, schema.with_kinds(kinds))
        for name in "stuvwxyz":
            start, end = sorted(chance.sample("abcdef"[:offices], 2))
            web = with_some_way(chance, web, name, start, end)
        return web

    def test_no_kinds_help_in_a_conflict(self):
        found = 0
        chance = random.Random(95)
        for _ in range(100):
            web = self.some_open_web(chance, SMALL, 1)
            try:
                filled(web)
            except Conflict:
                found += 1
                self.check_all_kinds(web)
        self.assertGreater(found, 10)

    def check_all_kinds(self, web):
        choices = [
            kinds_of(SMALL) if web.office(name).kinds == ("?",) else web.office(name).kinds for name in web.office_names()]
        for kinds in itertools.product(*choices):
            told = dict(zip(web.office_names(), kinds))
            stops = False
            for name in web.way_names():
                start, end = web.ends(name)
                stops = stops or any(plain_led(SMALL, value, told[end]) is None for value in web.book.members(told[start]))
            self.assertTrue(stops, kinds)

    def test_by_hand(self):
        web = linked(row_of("?", "?", "month", "?", "?"), "ab", "bc", "de")
        self.assertEqual([filled(web).office(name).kinds[0] for name in "abcde"], ["month", "month", "month", "?", "?"])
        # The finer one of the kinds that are reached.
        web = linked(row_of("?", "day", "month"), "ab", "bc", "ac")
        self.assertEqual([filled(web).office(name).kinds[0] for name in "abc"], ["day", "day", "month"])
        self.assertEqual(plain(filled(Web(sample_book()))), plain(Web(sample_book())))

    def test_rules_are_left_out(self):
        schema = sample_schema(((0,), (1,)), ("?", "day"), Rules((0,), (0, 1)))
        web = Web.of(sample_book(), [("a", schema), ("b", schema.with_rules(Rules((0,))))], [("go", "red", "a", "b", [])])
        result = filled(web)
        self.assertEqual([result.office(name).rules for name in "ab"], [Rules(), Rules()])
        self.assertEqual(result.office("a").kinds, ("?", "day"))

    def test_kinds_that_would_lose_a_rule(self):
        # With its own rules the last office could not keep the completed kinds.
        schema = Schema(sample_book(), ((0,),), ("?",), Rules((), (0,)))
        web = Web.of(sample_book(), [("a", schema), ("b", schema), ("c", ONE.with_kinds(("month",)))], [
            ("go", "red", "a", "b", []), ("on", "red", "b", "c", [])])
        self.assertEqual([filled(web).office(name).kinds for name in "abc"], [("month",)] * 3)

    def test_conflicts(self):
        # An unknown office leads to days and to sizes.
        web = linked(row_of("?", "day", "size"), "ab", "ac")
        error = self.raises(Conflict, filled, web)
        self.assertEqual(error.walks, ([("a", 0), ("b", 0)], [("a", 0), ("c", 0)]))
        # A month cannot become a day again.
        web = linked(row_of("month", "?", "day"), "ab", "bc")
        error = self.raises(Conflict, filled, web)
        self.assertEqual(error.walks, ([("a", 0), ("b", 0), ("c", 0)],))
        self.raises_unchanged(Conflict, filled, web)
        self.raises(Clash, web.with_way, "u", "red", "a", "c", [])

    def test_freshness(self):
        web = linked(row_of("?", "?", "month", "?"), "ab", "bc")
        self.unchanging(places_of, web)
        self.unchanging(filled, web)
