"""Webs (points 88 to 91)."""

import random

from formroads.errors import (
    Clash, DuplicateName, InvalidName, InvalidSchema, InvalidStep, NotForward, NotJoined, RuleLost, TooMany,
    UnknownName,
)
from formroads.rules import Rules
from formroads.ways import Way
from formroads.webs import Web
from tests.roadsamples import SMALL, forms_of, plain_road, sample_schema, sampled
from tests.samples import Case, plain, sample_book
from tests.test_stops import BITS
from tests.websamples import plain_ends, plain_roads, sample_web, same_schema, some_kinds, some_web

FLAT = sample_schema(((0, 1),), ("day", "?"))
DEEP = sample_schema(((0,), (1,)), ("month", "?"))
NEST = [("nest", 0, (1,))]


def three_offices():
    """A web with three offices and four ways."""
    open_end = sample_schema(((0,), (1,)), ("?", "?"))
    return Web.of(FLAT.book, [("a", FLAT), ("b", DEEP), ("c", open_end)], [
        ("a", "red", "a", "b", NEST), ("second", "blue", "b", "c", ()), ("third", "red", "a", "c", NEST),
        ("fourth", "green", "a", "b", NEST)])


class EntryTest(Case):
    def test_empty(self):
        book = sample_book()
        web = Web(book)
        self.assertIs(web.book, book)
        self.assertEqual((web.office_names(), web.way_names()), ((), ()))
        self.assertEqual((Web.MOST_OFFICES, Web.MOST_WAYS), (6, 9))
        self.raises(UnknownName, web.office, "a")
        self.raises(UnknownName, web.way, "a")
        self.raises(UnknownName, web.ends, "a")
        self.assertEqual(plain(Web.of(book, [], [])), plain(web))

    def test_offices_and_ways(self):
        web = three_offices()
        self.assertEqual(web.office_names(), ("a", "b", "c"))
        self.assertEqual(web.way_names(), ("a", "second", "third", "fourth"))
        self.assertTrue(web.office("b").same(DEEP))
        way = web.way("a")
        self.assertIsInstance(way, Way)
        self.assertEqual((way.name, way.label, way.steps), ("a", "red", tuple(NEST)))
        self.assertTrue(way.start.same(FLAT) and way.end.same(DEEP))
        self.assertEqual([web.ends(name) for name in web.way_names()], [("a", "b"), ("b", "c"), ("a", "c"), ("a", "b")])
        for name in ("b", "c", "x", ""):
            self.raises(UnknownName, web.way, name)
            self.raises(UnknownName, web.ends, name)
        for name in ("second", "x", ""):
            self.raises(UnknownName, web.office, name)

    def test_of(self):
        offices = [("a", FLAT), ("b", DEEP)]
        ways = [("go", "red", "a", "b", list(NEST))]
        web = Web.of(FLAT.book, offices, ways)
        told = Web(FLAT.book).with_office("a", FLAT).with_office("b", DEEP).with_way("go", "red", "a", "b", NEST)
        self.assertEqual(plain(web), plain(told))
        self.raises(DuplicateName, Web.of, FLAT.book, offices + offices[:1], ways)
        self.raises(DuplicateName, Web.of, FLAT.book, offices, ways * 2)
        self.raises(UnknownName, Web.of, FLAT.book, offices[:1], ways)
        # The offices enter before the ways.
        self.raises(InvalidName, Web.of, FLAT.book, offices + [("A", FLAT)], [("go", "red", "b", "a", [])])
        self.raises(NotForward, Web.of, FLAT.book, offices, [("go", "red", "b", "a", [])])

    def test_forms_that_fit_go_on_fitting(self):
        for number, records in enumerate((SMALL, BITS)):
            chance = random.Random(number)
            for _ in range(25):
                web = some_web(chance, records, 2, 4, 6)
                for road in plain_roads(web):
                    start, end = plain_ends(web, road)
                    for form in sampled(chance, forms_of(records, web.office(start), 2), 30):
                        if web.office(start).fits(form):
                            outcome, result = plain_road(records, [web.way(name) for name in road], form)
                            self.assertTrue(outcome == "stopped" or web.office(end).fits(result))


class WithOfficeTest(Case):
    def test_errors(self):
        web = three_offices()
        for name in ("", "A", "abcdefghi", "a1", "a b", "?"):
            self.raises_unchanged(InvalidName, web.with_office, name, FLAT)
        for name in ("a", "b", "c"):
            self.raises_unchanged(DuplicateName, web.with_office, name, FLAT)
        # A way has this name, but no office.
        self.assertEqual(web.with_office("second", FLAT).office_names(), ("a", "b", "c", "second"))

    def test_six_offices(self):
        web = Web(FLAT.book)
        for name in "fedcba":
            web = web.with_office(name, FLAT)
        self.assertEqual(web.office_names(), tuple("fedcba"))
        self.raises_unchanged(TooMany, web.with_office, "g", FLAT)
        self.raises(InvalidName, web.with_office, "G", FLAT)
        self.raises(DuplicateName, web.with_office, "a", FLAT)

    def test_the_web_does_not_change(self):
        web = three_offices()
        kept = plain(web)
        longer = web.with_office("d", DEEP)
        self.assertEqual(plain(web), kept)
        self.assertEqual(longer.office_names(), ("a", "b", "c", "d"))
        self.assertEqual(longer.way_names(), web.way_names())


class WithWayTest(Case):
    def test_errors_in_their_order(self):
        web = three_offices()
        for name, label in (("", "red"), ("A", "red"), ("new", ""), ("new", "Red"), ("abcdefghi", "red"), ("a", "?")):
            self.raises_unchanged(InvalidName, web.with_way, name, label, "x", "a", [])
        for name in web.way_names():
            self.raises_unchanged(DuplicateName, web.with_way, name, "red", "x", "a", [])
        for start, end in (("x", "a"), ("a", "x"), ("second", "c"), ("c", "x")):
            self.raises_unchanged(UnknownName, web.with_way, "new", "red", start, end, [("turn", 0)])
        for start, end in (("b", "a"), ("a", "a"), ("c", "c"), ("c", "a")):
            self.raises_unchanged(NotForward, web.with_way, "new", "red", start, end, [("turn", 0)])
        self.raises(InvalidStep, web.with_way, "new", "red", "a", "b", [("unnest", 0)])
        self.raises(NotJoined, web.with_way, "new", "red", "a", "b", [])
        self.raises(NotJoined, web.with_way, "new", "red", "b", "c", [("unnest", 0)])
        far = web.with_office("d", sample_schema(((0,), (1,)), ("size", "?"))).with_office("e", sample_schema(((0,),), ("?",)))
        self.raises(Clash, far.with_way, "new", "red", "a", "d", [("turn", 0)])
        self.raises(NotJoined, far.with_way, "new", "red", "a", "e", [])

    def test_nine_ways(self):
        web = three_offices().without_ways(["a", "second", "third", "fourth"])
        for name in "abcdefghi":
            web = web.with_way(name, "red", "a", "b", NEST)
        self.assertEqual(web.way_names(), tuple("abcdefghi"))
        self.raises_unchanged(TooMany, web.with_way, "j", "red", "a", "b", NEST)
        self.raises(TooMany, web.with_way, "j", "red", "a", "b", [("turn", 0)])
        self.raises(NotForward, web.with_way, "j", "red", "b", "a", [])
        self.raises(DuplicateName, web.with_way, "a", "red", "b", "a", [])
        self.assertEqual(web.without_ways("b").with_way("j", "red", "a", "b", NEST).way_names(), tuple("acdefghij"))

    def test_lost_rules(self):
        parted = DEEP.with_rules(Rules((0,), (0, 1)))
        web = Web.of(FLAT.book, [("a", FLAT), ("b", parted)], [])
        error = self.raises(RuleLost, web.with_way, "go", "red", "a", "b", NEST)
        self.assertEqual(error.rule, ("parted", 1))
        self.raises(NotJoined, web.with_way, "go", "red", "a", "b", [])
        # Rules that all forms obey when they arrive are not lost.
        kept = Web.of(FLAT.book, [("a", FLAT), ("b", DEEP.with_rules(Rules((0,), (0,))))], [])
        self.assertEqual(kept.with_way("go", "red", "a", "b", NEST).way_names(), ("go",))
        error = self.raises(RuleLost, Web.of, DEEP.book, [("a", DEEP), ("b", parted)], [("go", "red", "a", "b", [])])
        self.assertEqual(error.rule, ("full", 0))

    def test_the_web_does_not_change(self):
        web = three_offices()
        kept = plain(web)
        steps = list(NEST)
        longer = web.with_way("new", "red", "a", "b", steps)
        steps.append("spoiled")
        self.assertEqual(longer.way("new").steps, tuple(NEST))
        self.assertEqual(plain(web), kept)
        self.assertEqual(longer.way_names(), ("a", "second", "third", "fourth", "new"))
        self.assertEqual(longer.office_names(), web.office_names())


class ChangesTest(Case):
    def test_without_ways(self):
        web = three_offices()
        kept = plain(web)
        for names in (("second", "a"), ["a", "second"], ["second", "a", "second", "a", "a"]):
            fewer = web.without_ways(names)
            self.assertEqual(fewer.way_names(), ("third", "fourth"))
            self.assertEqual(fewer.office_names(), web.office_names())
            self.assertEqual(fewer.ends("third"), ("a", "c"))
            self.raises(UnknownName, fewer.way, "a")
            self.raises(UnknownName, fewer.ends, "a")
        self.assertEqual(plain(web.without_ways([])), kept)
        self.assertEqual(web.without_ways(web.way_names()).way_names(), ())
        for names in (["x"], ["a", "b"], ["a", "x", "a"], ("c",)):
            self.raises_unchanged(UnknownName, web.without_ways, names)
        self.assertEqual(plain(web), kept)

    def test_with_kinds(self):
        web = three_offices()
        kept = plain(web)
        changed = web.with_kinds("b", ["month", "size"])
        self.assertEqual(plain(web), kept)
        self.assertEqual(changed.office("b").kinds, ("month", "size"))
        self.assertEqual((changed.office("b").shape, changed.office("b").rules), (DEEP.shape, Rules()))
        self.assertEqual(changed.office_names(), web.office_names())
        self.assertEqual(changed.way_names(), web.way_names())
        for name in web.way_names():
            old, way = web.way(name), changed.way(name)
            self.assertEqual((way.name, way.label, way.steps, changed.ends(name)), (name, old.label, old.steps, web.ends(name)))
            start, end = changed.ends(name)
            self.assertTrue(way.start.same(changed.office(start)) and way.end.same(changed.office(end)))
        # What is no change is a change all the same.
        self.assertEqual(plain(web.with_kinds("b", DEEP.kinds)), kept)

    def test_errors_of_with_kinds(self):
        web = three_offices()
        self.raises_unchanged(UnknownName, web.with_kinds, "x", ())
        self.raises_unchanged(UnknownName, web.with_kinds, "second", ("?", "?"))
        for kinds in ((), ("?",), ("?", "?", "?"), ("year",)):
            self.raises_unchanged(InvalidSchema, web.with_kinds, "b", kinds)
        self.raises_unchanged(UnknownName, web.with_kinds, "b", ("year", "?"))
        self.raises_unchanged(Clash, web.with_kinds, "b", ("size", "?"))
        self.raises_unchanged(Clash, web.with_kinds, "a", ("size", "?"))
        # Kinds that no way needs to know.
        alone = web.without_ways(web.way_names())
        self.assertEqual(alone.with_kinds("b", ("size", "?")).office("b").kinds, ("size", "?"))

    def test_a_rule_that_a_change_loses(self):
        flat, parted = FLAT.with_rules(Rules((), (0,))), FLAT.with_kinds(("day", "?")).with_rules(Rules((), (0,)))
        web = Web.of(FLAT.book, [("a", flat), ("b", parted)], [("go", "red", "a", "b", [])])
        error = self.raises(RuleLost, web.with_kinds, "b", ("month", "?"))
        self.assertEqual(error.rule, ("parted", 0))
        self.raises_unchanged(RuleLost, web.with_kinds, "b", ("month", "?"))
        self.assertEqual(web.with_kinds("a", ("day", "day")).office("a").kinds, ("day", "day"))
        # Values of one kind that arrive at another one.
        web = Web.of(FLAT.book, [("a", flat.with_kinds(("month", "?"))), ("b", parted.with_kinds(("month", "?")))],
                     [("go", "red", "a", "b", [])])
        self.raises_unchanged(RuleLost, web.with_kinds, "a", ("day", "?"))

    def test_a_change_that_spoils_two_ways(self):
        # If the middle has months, two days that arrive become one month, and no month goes on to a size.
        parted = Rules((), (0,))
        start = sample_schema(((0,),), ("day",), parted)
        offices = [("from", start), ("middle", start.with_kinds(("?",))), ("into", sample_schema(((0,),), ("size",)))]
        arriving, leaving = ("in", "red", "from", "middle", []), ("out", "red", "middle", "into", [])
        for ways, error in (([arriving, leaving], RuleLost), ([leaving, arriving], Clash)):
            web = Web.of(start.book, offices, ways)
            self.raises_unchanged(error, web.with_kinds, "middle", ("month",))
        # A size arrives from nowhere, whatever way is asked first; the kinds of the office come before all ways.
        self.raises(Clash, web.with_kinds, "middle", ("size",))
        self.raises(UnknownName, web.with_kinds, "middle", ("year",))
        # A way that neither starts nor ends at the office is left as it is.
        web = Web.of(start.book, offices + [("last", start.with_kinds(("?",)))], [arriving, leaving])
        self.assertEqual(web.with_kinds("last", ("month",)).office("last").kinds, ("month",))

    def test_with_steps(self):
        web = three_offices()
        kept = plain(web)
        steps = [("nest", 0, (1,)), ("unnest", 0), ("nest", 0, (1,))]
        changed = web.with_steps("a", steps)
        steps.clear()
        self.assertEqual(plain(web), kept)
        self.assertEqual(len(changed.way("a").steps), 3)
        self.assertEqual((changed.way("a").name, changed.way("a").label, changed.ends("a")), ("a", "red", ("a", "b")))
        self.assertTrue(changed.way("a").start.same(FLAT) and changed.way("a").end.same(DEEP))
        self.assertEqual(changed.way_names(), web.way_names())
        self.assertEqual(plain(changed.with_steps("a", NEST)), kept)
        self.raises_unchanged(UnknownName, web.with_steps, "b", [("turn", 0)])
        self.raises_unchanged(InvalidStep, web.with_steps, "a", [("unnest", 0)])
        self.raises_unchanged(NotJoined, web.with_steps, "a", [])

    def test_a_rule_that_other_steps_lose(self):
        deep = DEEP.with_rules(Rules((0,)))
        end = DEEP.with_rules(Rules((0,), (0,)))
        web = Web.of(deep.book, [("a", deep), ("b", end)], [("go", "red", "a", "b", [("unnest", 0), ("nest", 0, (1,))])])
        error = self.raises(RuleLost, web.with_steps, "go", [])
        self.assertEqual(error.rule, ("parted", 0))
        self.raises_unchanged(RuleLost, web.with_steps, "go", [])

    def test_by_chance(self):
        done = 0
        for number, records in enumerate((SMALL, BITS)):
            chance = random.Random(number)
            for _ in range(40):
                web = some_web(chance, records, 2, 4, 6)
                office = chance.choice(web.office_names())
                kinds = some_kinds(chance, records, web, office)
                done += self.check_kinds(web, office, kinds)
        self.assertGreater(done, 20)

    def check_kinds(self, web, office, kinds):
        """The change does what making the web anew with these kinds does."""
        offices = [(name, web.office(name)) for name in web.office_names()]
        offices = [(name, schema.with_kinds(kinds) if name == office else schema) for name, schema in offices]
        ways = [(name, web.way(name).label, *web.ends(name), web.way(name).steps) for name in web.way_names()]
        try:
            wanted = Web.of(web.book, offices, ways)
        except (Clash, RuleLost) as error:
            self.raises_unchanged(type(error), web.with_kinds, office, kinds)
            return 0
        self.assertEqual(plain(web.with_kinds(office, kinds)), plain(wanted))
        return 1


class RoadsTest(Case):
    def test_by_chance(self):
        for number, records in enumerate((SMALL, BITS, SMALL)):
            chance = random.Random(number)
            for _ in range(15):
                web = some_web(chance, records, chance.randint(1, 2), chance.randint(2, 5), 7)
                for most in (9, 2, 1, 0, 4):
                    roads = plain_roads(web, most)
                    for start in web.office_names():
                        for end in web.office_names():
                            wanted = [road for road in roads if plain_ends(web, road) == (start, end)]
                            self.assertEqual(web.roads(start, end, most=most), wanted)
                for start in web.office_names():
                    self.assertEqual(web.roads(start, start), [])

    def test_six_offices_in_a_row(self):
        names = "abcdef"
        ways = [(one + other, "red", one, other, []) for one, other in zip(names, names[1:])]
        web = Web.of(FLAT.book, [(name, FLAT) for name in names], ways + [("last", "red", "a", "f", [])])
        row = tuple(name for name, *_ in ways)
        self.assertEqual(web.roads("a", "f"), [row, ("last",)])
        self.assertEqual(web.roads("a", "f", most=5), [row, ("last",)])
        self.assertEqual(web.roads("a", "f", most=4), [("last",)])
        self.assertEqual(web.roads("a", "f", most=0), [])
        self.assertEqual(web.roads("f", "a"), [])
        self.assertEqual(web.roads("b", "d"), [("bc", "cd")])

    def test_unknown_offices(self):
        web = three_offices()
        for start, end in (("x", "a"), ("a", "x"), ("second", "a"), ("x", "x")):
            self.raises_unchanged(UnknownName, web.roads, start, end)
            with self.assertRaises(UnknownName):
                web.roads(start, end, most=0)

    def test_road(self):
        web = three_offices()
        for names in (("a", "second"), ["fourth", "second"], ("third",), ["a"]):
            ways = web.road(names)
            self.assertIsInstance(ways, list)
            self.assertEqual([way.name for way in ways], list(names))
        for names in ((), [], ("second", "a"), ("a", "a"), ("a", "third"), ("third", "second")):
            self.raises_unchanged(NotJoined, web.road, names)
        for names in (("x",), ("a", "b"), ("second", "a", "x"), ["x", "second"]):
            self.raises_unchanged(UnknownName, web.road, names)

    def test_offices_with_the_same_schema(self):
        # Schemas alone do not make a road.
        web = Web.of(FLAT.book, [(name, FLAT) for name in "abcd"], [
            ("one", "red", "a", "b", []), ("two", "red", "c", "d", []), ("between", "red", "b", "c", [])])
        self.raises(NotJoined, web.road, ("one", "two"))
        self.assertEqual(len(web.road(("one", "between", "two"))), 3)
        self.assertTrue(same_schema(web.office("a"), web.office("d")))


class FreshnessTest(Case):
    def test_answers_and_arguments(self):
        web = three_offices()
        self.unchanging(Web.of, FLAT.book, [("a", FLAT), ("b", DEEP)], [("go", "red", "a", "b", list(NEST))])
        self.unchanging(web.with_office, "d", DEEP)
        self.unchanging(web.with_way, "new", "red", "a", "b", list(NEST))
        self.unchanging(web.without_ways, ["a", "a"])
        self.unchanging(web.with_kinds, "b", ["month", "size"])
        self.unchanging(web.with_steps, "a", list(NEST))
        self.unchanging(web.roads, "a", "c")
        self.unchanging(web.road, ["a", "second"])
        kept = plain(web)
        web.roads("a", "c").append("spoiled")
        web.road(("a",)).clear()
        self.assertEqual(plain(web), kept)

    def test_the_last_example(self):
        web = sample_web()
        self.assertEqual(web.roads("home", "town"), [("go",)])
        self.assertEqual(web.way("go").label, "gate")
