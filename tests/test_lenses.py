"""Which roads of a web are alike (points 92 and 93)."""

import itertools
import random

from formroads.errors import NotJoined, UnknownName
from formroads.lenses import alike_roads, disagreement, lenses, road_difference
from formroads.rules import Rules
from formroads.webs import Web
from tests.roadsamples import SMALL, plain_road, sample_schema
from tests.samples import Case, plain_outline, sample_book
from tests.test_stops import BITS
from tests.websamples import Outcomes, plain_ends, plain_roads, some_web

DAY = sample_schema(((0,),), ("day",))
OPEN = DAY.with_kinds(("?",))
MONTH = DAY.with_kinds(("month",))


def plain_lenses(web):
    """All lenses by the words of point 93."""
    roads, names = plain_roads(web), web.office_names()
    found = []
    for first, second in itertools.combinations(roads, 2):
        offices = [{office for name in road for office in web.ends(name)} for road in (first, second)]
        if plain_ends(web, first) == plain_ends(web, second) and offices[0] & offices[1] == set(plain_ends(web, first)):
            found.append((first, second))
    return sorted(found, key=lambda pair: (
        [names.index(name) for name in plain_ends(web, pair[0])], roads.index(pair[0]), roads.index(pair[1])))


def small_webs(number):
    """Webs of few columns by chance, with the records of their kinds."""
    for seed, (records, count) in enumerate(((SMALL, 1), (BITS, 2), (SMALL, 2), (SMALL, 1))):
        chance = random.Random(seed)
        for _ in range(number):
            yield records, some_web(chance, records, count, chance.randint(2, 5), chance.randint(1, 8))


def day_web(*ways):
    """A web of four offices that keep days, an open one between them, with these ways."""
    return Web.of(sample_book(), [("a", DAY), ("b", OPEN), ("c", MONTH), ("d", MONTH)], ways)


class RoadDifferenceTest(Case):
    def check_form(self, records, web, first, second, form):
        start, _ = plain_ends(web, first)
        self.assertTrue(web.office(start).fits(form))
        self.assertIn(len(plain_outline(form)), (1, 2))
        self.assertNotEqual(*[plain_road(records, [web.way(name) for name in road], form) for road in (first, second)])

    def test_by_chance(self):
        told = []
        for records, web in small_webs(15):
            outcomes = Outcomes(records, web, 2)
            for first, second in itertools.product(plain_roads(web), repeat=2):
                if plain_ends(web, first) != plain_ends(web, second):
                    self.raises(NotJoined, road_difference, web, first, second)
                    continue
                form = road_difference(web, first, second)
                told.append(form is None and first != second)
                self.assertEqual(form is None, outcomes.alike(first, second))
                if form is not None:
                    self.check_form(records, web, first, second, form)
        self.assertGreater(told.count(True), 20)
        self.assertGreater(told.count(False), 20)

    def test_errors_in_their_order(self):
        web = day_web(("one", "red", "a", "b", []), ("two", "red", "b", "c", []), ("three", "red", "a", "c", []))
        good, bad, unknown = ("one", "two"), ("two", "one"), ("one", "four")
        for first, second, error in (
            (bad, unknown, NotJoined), (unknown, bad, UnknownName), (good, unknown, UnknownName), (good, bad, NotJoined),
            ((), unknown, NotJoined), (unknown, (), UnknownName), (good, (), NotJoined), (good, ("one",), NotJoined),
            (("two",), ("three",), NotJoined), (("one",), ("three",), NotJoined), ((), (), NotJoined),
        ):
            self.raises_unchanged(error, road_difference, web, first, second)
        self.assertIsNone(road_difference(web, good, ["three"]))
        self.assertIsNone(road_difference(web, good, good))

    def test_offices_with_the_same_schema(self):
        web = Web.of(sample_book(), [("a", DAY), ("b", DAY), ("c", DAY)], [
            ("one", "red", "a", "b", []), ("two", "red", "a", "c", []), ("three", "red", "b", "c", [])])
        self.raises(NotJoined, road_difference, web, ("one",), ("two",))
        self.raises(NotJoined, road_difference, web, ("three",), ("two",))
        self.assertIsNone(road_difference(web, ("one", "three"), ("two",)))


class LensesTest(Case):
    def test_by_chance(self):
        found = 0
        for _, web in small_webs(40):
            wanted = plain_lenses(web)
            self.assertEqual(lenses(web), wanted)
            found += len(wanted)
        self.assertGreater(found, 100)

    def test_lenses_that_share_an_office(self):
        schema = DAY
        ways = [("ab", "r", "a", "b", []), ("abb", "r", "a", "b", []), ("bc", "r", "b", "c", []), ("bcc", "r", "b", "c", [])]
        web = Web.of(sample_book(), [(name, schema) for name in "abc"], ways)
        # Roads from a to c all pass b.
        self.assertEqual(lenses(web), [(("ab",), ("abb",)), (("bc",), ("bcc",))])
        web = web.with_way("ac", "r", "a", "c", [])
        self.assertEqual(lenses(web), [
            (("ab",), ("abb",)), (("ab", "bc"), ("ac",)), (("ab", "bcc"), ("ac",)), (("abb", "bc"), ("ac",)),
            (("abb", "bcc"), ("ac",)), (("bc",), ("bcc",))])
        self.assertEqual(lenses(web.without_ways(["abb", "bcc", "ac"])), [])
        self.assertEqual(lenses(Web(sample_book())), [])

    def test_the_order_of_entry_counts(self):
        # Neither the names nor the ways' order, but the entry of the offices comes first.
        web = Web.of(sample_book(), [(name, DAY) for name in "zya"], [
            ("last", "r", "y", "a", []), ("other", "r", "y", "a", []), ("first", "r", "z", "a", []),
            ("b", "r", "z", "a", []), ("a", "r", "z", "y", [])])
        self.assertEqual(lenses(web), [
            (("first",), ("b",)), (("first",), ("a", "last")), (("first",), ("a", "other")),
            (("b",), ("a", "last")), (("b",), ("a", "other")), (("last",), ("other",))])


class DisagreementTest(Case):
    def test_by_chance(self):
        told = []
        for records, web in small_webs(30):
            outcomes = Outcomes(records, web, 2)
            wrong = [pair for pair in plain_lenses(web) if not outcomes.alike(*pair)]
            found = disagreement(web)
            told.append(found is None and len(plain_lenses(web)) > 0)
            if found is None:
                self.assertEqual(wrong, [])
                for first, second in itertools.combinations(plain_roads(web), 2):
                    if plain_ends(web, first) == plain_ends(web, second):
                        self.assertTrue(outcomes.alike(first, second))
            else:
                first, second, form = found
                self.assertEqual((first, second), wrong[0])
                RoadDifferenceTest.check_form(self, records, web, first, second, form)
        self.assertGreater(told.count(True), 5)
        self.assertGreater(told.count(False), 20)

    def test_the_first_lens_that_disagrees(self):
        web = day_web(
            ("same", "red", "a", "b", []), ("again", "red", "a", "b", []), ("month", "red", "b", "c", []),
            ("label", "blue", "b", "c", []), ("direct", "red", "a", "c", []))
        first, second, form = disagreement(web)
        self.assertEqual((first, second), (("month",), ("label",)))
        self.assertEqual(form, form[:1])
        self.assertTrue(OPEN.fits(form))
        self.assertIsNone(disagreement(web.without_ways(["label"])))
        # No form that fits the first office shows the difference, so the roads are alike.
        self.assertIsNone(road_difference(web, ("same", "month"), ("same", "label")))


class AlikeRoadsTest(Case):
    def test_by_chance(self):
        sizes = []
        for records, web in small_webs(15):
            outcomes = Outcomes(records, web, 2)
            for start, end in itertools.product(web.office_names(), repeat=2):
                roads = [road for road in plain_roads(web) if plain_ends(web, road) == (start, end)]
                wanted = []
                for road in roads:
                    for alike in wanted:
                        if outcomes.alike(alike[0], road):
                            alike.append(road)
                            break
                    else:
                        wanted.append([road])
                self.assertEqual(alike_roads(web, start, end), wanted)
                sizes.append((len(roads), len(wanted)))
        self.assertTrue(any(roads > lists > 1 for roads, lists in sizes))

    def test_by_hand(self):
        web = day_web(
            ("one", "red", "a", "c", []), ("two", "red", "a", "b", []), ("three", "red", "b", "c", []),
            ("four", "red", "b", "c", []), ("five", "red", "c", "d", []))
        self.assertEqual(alike_roads(web, "a", "c"), [[("one",), ("two", "three"), ("two", "four")]])
        self.assertEqual(alike_roads(web, "c", "a"), [])
        self.assertEqual(alike_roads(web, "a", "a"), [])
        for start, end in (("x", "a"), ("a", "x"), ("one", "c")):
            self.raises_unchanged(UnknownName, alike_roads, web, start, end)

    def test_roads_that_stop_the_same_forms_with_other_labels(self):
        web = day_web(
            ("red", "red", "b", "c", []), ("blue", "blue", "b", "c", []), ("green", "red", "b", "c", []))
        self.assertEqual(alike_roads(web, "b", "c"), [[("red",), ("green",)], [("blue",)]])


class FreshnessTest(Case):
    def test_answers_and_arguments(self):
        web = day_web(
            ("red", "red", "b", "c", []), ("blue", "blue", "b", "c", []), ("two", "red", "a", "b", []),
            ("one", "red", "a", "c", []))
        self.unchanging(lenses, web)
        self.unchanging(disagreement, web)
        self.unchanging(alike_roads, web, "a", "c")
        self.unchanging(alike_roads, web, "b", "c")
        self.unchanging(road_difference, web, ["red"], ["blue"])

    def test_rules_of_the_first_office_count(self):
        deep = sample_schema(((0,), (1,)), ("day", "day"))
        flat = sample_schema(((0, 1),), ("day", "day"))
        for rules, alike in ((Rules(), False), (Rules((0,)), True)):
            web = Web.of(deep.book, [("a", deep.with_rules(rules)), ("b", flat)], [
                ("one", "red", "a", "b", [("unnest", 0)]), ("two", "blue", "a", "b", [("unnest", 0)])])
            self.assertEqual(disagreement(web) is None, alike)
