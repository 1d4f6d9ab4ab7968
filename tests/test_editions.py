"""Editions of webs (points 103 to 105)."""

import random

from formroads.editions import Editions
from formroads.errors import Clash, InvalidMove, InvalidSchema, InvalidStep, NotJoined, RuleLost, UnknownName
from formroads.rules import Rules
from formroads.ways import Way
from formroads.webs import Web
from tests.editionsamples import NEST, change_somehow, facts_of, plain_turn, same_ways
from tests.kindsamples import plain_allowed
from tests.roadsamples import SMALL, forms_of, plain_road, sample_schema
from tests.samples import Case, plain, plain_obeys
from tests.test_stops import BITS
from tests.websamples import sample_web, some_kinds, some_web

FLAT = sample_schema(((0, 1),), ("day", "?"))
DEEP = sample_schema(((0,), (1,)), ("month", "?"))


def two_offices():
    return Web.of(FLAT.book, [("a", FLAT), ("b", DEEP)], [("go", "red", "a", "b", NEST)])


class EditionsTest(Case):
    def test_edition_0(self):
        web = sample_web()
        editions = Editions(web)
        self.assertEqual(editions.latest(), 0)
        self.assertEqual(plain(editions.web_at(0)), plain(web))
        for edition in (-1, 1, 2, 99):
            self.raises_unchanged(InvalidMove, editions.web_at, edition)

    def test_changes(self):
        editions = Editions(two_offices())
        self.assertEqual(editions.change_kinds("b", ["month", "size"]), 1)
        self.assertEqual(editions.change_steps("go", [("nest", 0, (1,)), ("unnest", 0), ("nest", 0, (1,))]), 2)
        self.assertEqual(editions.change_kinds("a", ("day", "size")), 3)
        self.assertEqual(editions.latest(), 3)
        web = two_offices()
        for edition, change in enumerate((
            lambda web: web, lambda web: web.with_kinds("b", ("month", "size")),
            lambda web: web.with_steps("go", [("nest", 0, (1,)), ("unnest", 0), ("nest", 0, (1,))]),
            lambda web: web.with_kinds("a", ("day", "size")),
        )):
            web = change(web)
            self.assertEqual(plain(editions.web_at(edition)), plain(web))
        self.raises(InvalidMove, editions.web_at, 4)

    def test_a_change_may_change_nothing(self):
        editions = Editions(two_offices())
        self.assertEqual(editions.change_kinds("a", FLAT.kinds), 1)
        self.assertEqual(editions.change_steps("go", NEST), 2)
        self.assertEqual(plain(editions.web_at(2)), plain(two_offices()))

    def test_by_chance(self):
        told = []
        for number, records in enumerate((SMALL, BITS, SMALL)):
            chance = random.Random(number)
            for _ in range(40):
                editions = Editions(some_web(chance, records, 2, 3, 4))
                for _ in range(4):
                    office = chance.choice(editions.web_at(0).office_names())
                    kinds = some_kinds(chance, records, editions.web_at(editions.latest()), office)
                    told.append(self.check_change(records, editions, office, kinds))
                web = editions.web_at(0)
                for edition in range(editions.latest() + 1):
                    other = editions.web_at(edition)
                    self.assertEqual((other.office_names(), other.way_names()), (web.office_names(), web.way_names()))
                    for name in web.way_names():
                        self.assertEqual((other.way(name).label, other.ends(name)), (web.way(name).label, web.ends(name)))
        for word in (None, Clash, RuleLost):
            self.assertGreater(told.count(word), 3)

    def check_change(self, records, editions, office, kinds):
        """The change makes the next edition, or raises what the points say and makes none."""
        latest = editions.latest()
        web = editions.web_at(latest)
        old = web.office(office)
        error = None
        try:
            web.with_kinds(office, kinds)
        except (Clash, RuleLost) as raised:
            error = type(raised)
        if error is None:
            error = self.turn_error(records, old, old.with_kinds(kinds))
        if error is not None:
            self.raises_unchanged(error, editions.change_kinds, office, kinds)
            self.assertEqual(editions.latest(), latest)
            return error
        self.assertEqual(editions.change_kinds(office, kinds), latest + 1)
        self.assertEqual(plain(editions.web_at(latest + 1)), plain(web.with_kinds(office, kinds)))
        self.assertEqual(plain(editions.web_at(latest)), plain(web))
        return None

    def turn_error(self, records, old, new):
        """What the turn between two schemas of an office raises, by brute force."""
        if not all(plain_allowed(records, kind, target) for kind, target in zip(old.kinds, new.kinds)):
            return Clash
        turn = Way("turn", "turn", old, new)
        for form in forms_of(records, old, 2):
            if old.fits(form):
                outcome, result = plain_road(records, [turn], form)
                if outcome == "through" and not all(plain_obeys(result, rule) for rule in new.rules.named()):
                    return RuleLost
        return None


class ErrorsTest(Case):
    def test_change_kinds(self):
        editions = Editions(two_offices())
        for office, kinds, error in (
            ("x", (), UnknownName), ("go", ("?", "?"), UnknownName), ("a", ("day",), InvalidSchema),
            ("a", ("year",), InvalidSchema), ("a", ("year", "?"), UnknownName), ("b", ("size", "?"), Clash),
        ):
            self.raises_unchanged(error, editions.change_kinds, office, kinds)
        self.assertEqual(editions.latest(), 0)

    def test_the_turn(self):
        web = Web.of(FLAT.book, [("a", FLAT)], [])
        editions = Editions(web)
        # No way is there, but forms stay at the office.
        self.assertEqual(web.with_kinds("a", ("size", "?")).office("a").kinds, ("size", "?"))
        self.raises_unchanged(Clash, editions.change_kinds, "a", ("size", "?"))
        parted = Editions(Web.of(FLAT.book, [("a", FLAT.with_rules(Rules((), (0,))))], []))
        error = self.raises(RuleLost, parted.change_kinds, "a", ("month", "?"))
        self.assertEqual(error.rule, ("parted", 0))
        self.raises_unchanged(RuleLost, parted.change_kinds, "a", ("month", "?"))
        self.raises_unchanged(Clash, parted.change_kinds, "a", ("size", "?"))
        self.assertEqual(parted.change_kinds("a", ("?", "?")), 1)
        # From an unknown kind on, any kind is allowed; two days would become one month.
        self.raises_unchanged(RuleLost, parted.change_kinds, "a", ("month", "?"))
        self.assertEqual(parted.change_kinds("a", ("size", "?")), 2)

    def test_the_ways_come_before_the_turn(self):
        parted = FLAT.with_kinds(("month", "?")).with_rules(Rules((), (0,)))
        start = FLAT.with_kinds(("month", "?")).with_rules(Rules((), (0,)))
        web = Web.of(FLAT.book, [("a", start), ("b", parted)], [("go", "red", "a", "b", [])])
        # Two days that arrive become one month, and no month can turn to a day.
        self.raises_unchanged(RuleLost, Editions(web).change_kinds, "a", ("day", "?"))
        alone = Editions(web.without_ways(["go"]))
        self.raises_unchanged(Clash, alone.change_kinds, "a", ("day", "?"))

    def test_change_steps(self):
        editions = Editions(two_offices())
        for way, steps, error in (
            ("a", [], UnknownName), ("x", [("turn", 0)], UnknownName), ("go", [("unnest", 0)], InvalidStep), ("go", [], NotJoined),
        ):
            self.raises_unchanged(error, editions.change_steps, way, steps)
        deep = DEEP.with_rules(Rules((0,)))
        end = DEEP.with_rules(Rules((0,), (0,)))
        web = Web.of(deep.book, [("a", deep), ("b", end)], [("go", "red", "a", "b", [("unnest", 0), ("nest", 0, (1,))])])
        self.raises_unchanged(RuleLost, Editions(web).change_steps, "go", [])


class TurnTest(Case):
    def test_turns(self):
        editions = Editions(two_offices())
        editions.change_kinds("a", ("day", "size"))
        editions.change_kinds("b", ("month", "size"))
        for office in ("a", "b"):
            for edition in (0, 1):
                turn = editions.turn(office, edition)
                self.assertIsInstance(turn, Way)
                self.assertTrue(same_ways([facts_of(turn)], [plain_turn(editions, office, edition)]))
        turn = editions.turn("a", 0)
        self.assertEqual((turn.name, turn.label, turn.steps), ("a", "a", ()))
        self.assertEqual((turn.start.kinds, turn.end.kinds), (("day", "?"), ("day", "size")))
        self.assertTrue(editions.turn("b", 0).start.same(editions.turn("b", 0).end))

    def test_errors(self):
        editions = Editions(two_offices())
        editions.change_kinds("a", ("day", "size"))
        for edition in (-1, 1, 2):
            self.raises_unchanged(InvalidMove, editions.turn, "a", edition)
            # An office that the web does not have comes first.
            self.raises_unchanged(UnknownName, editions.turn, "x", edition)
        for office in ("x", "go", ""):
            self.raises_unchanged(UnknownName, editions.turn, office, 0)
        self.raises(InvalidMove, Editions(two_offices()).turn, "a", 0)


class TwinTest(Case):
    def test_twins(self):
        editions = Editions(two_offices())
        editions.change_kinds("a", ("day", "size"))
        twin = editions.twin()
        self.assertIsInstance(twin, Editions)
        self.assertEqual(plain(twin), plain(editions))
        kept = plain(editions)
        self.assertEqual(twin.change_kinds("b", ("month", "size")), 2)
        self.assertEqual(plain(editions), kept)
        self.assertEqual(editions.change_steps("go", NEST + [("unnest", 0)] + NEST), 2)
        self.assertEqual(twin.web_at(2).office("b").kinds, ("month", "size"))
        self.assertEqual(editions.web_at(2).office("b").kinds, ("month", "?"))
        self.assertEqual(len(twin.web_at(2).way("go").steps), 1)
        self.assertEqual(plain(twin.web_at(1)), plain(editions.web_at(1)))

    def test_twins_by_chance(self):
        chance = random.Random(3)
        for _ in range(10):
            editions = Editions(some_web(chance, SMALL, 2, 3, 3))
            for _ in range(3):
                change_somehow(chance, SMALL, editions)
                kept, twin = plain(editions), editions.twin()
                change_somehow(chance, SMALL, twin)
                self.assertEqual(plain(editions), kept)


class FreshnessTest(Case):
    def test_arguments(self):
        editions = Editions(two_offices())
        kinds, steps = ["month", "size"], list(NEST)
        editions.change_kinds("b", kinds)
        editions.change_steps("go", steps)
        kept = plain(editions)
        kinds[0], steps[0] = "?", "spoiled"
        self.assertEqual(plain(editions), kept)
        self.unchanging(editions.turn, "b", 0)
        self.unchanging(editions.web_at, 1)
        self.unchanging(editions.twin)
        web = editions.web_at(1)
        web.with_kinds("b", ("?", "?"))
        self.assertEqual(plain(editions), kept)
