"""The ways that a web does not need (point 94)."""

import random

from formroads.errors import NotJoined, UnknownName
from formroads.leastwebs import lean_road, least, needless, stand_in
from formroads.webs import Web
from tests.roadsamples import SMALL
from tests.samples import Case, all_subsets, plain, sample_book
from tests.test_lenses import DAY, MONTH, OPEN, day_web, small_webs
from tests.test_stops import BITS
from tests.websamples import Outcomes, plain_ends, plain_roads, some_web


def plain_needless(web, outcomes):
    """The needless ways by the words of point 94."""
    names = web.way_names()
    found = []
    for number, name in enumerate(names):
        for road in plain_roads(web):
            if plain_ends(web, road) == web.ends(name) and (len(road) > 1 or road[0] in names[:number]):
                if outcomes.alike(road, (name,)):
                    found.append(name)
                    break
    return tuple(found)


def plain_stand_in(web, outcomes, lost, name):
    """The first road without lost ways that is alike to the way: few ways first, then as `roads` has them."""
    roads = [road for road in plain_roads(web) if plain_ends(web, road) == web.ends(name)]
    roads = [road for road in roads if not set(road) & set(lost) and outcomes.alike(road, (name,))]
    return sorted(roads, key=len)[0]


class SmallWebsTest(Case):
    def test_by_chance(self):
        numbers = []
        for records, web in small_webs(25):
            outcomes = Outcomes(records, web, 2)
            wanted = plain_needless(web, outcomes)
            self.assertEqual(needless(web), wanted)
            self.assertEqual(plain(least(web)), plain(web.without_ways(wanted)))
            for name in web.way_names():
                self.assertEqual(stand_in(web, name), plain_stand_in(web, outcomes, wanted, name))
            for road in plain_roads(web):
                self.check_lean_road(web, outcomes, wanted, road)
            numbers.append(len(wanted))
        self.assertGreater(len([number for number in numbers if number]), 20)
        self.assertGreater(max(numbers), 2)

    def check_lean_road(self, web, outcomes, lost, road):
        lean = lean_road(web, road)
        self.assertEqual(lean, tuple(part for name in road for part in plain_stand_in(web, outcomes, lost, name)))
        self.assertTrue(outcomes.alike(lean, road))
        self.assertFalse(set(lean) & set(lost))

    def test_no_fewer_ways_are_enough(self):
        tried = 0
        for number, records in enumerate((SMALL, BITS)):
            chance = random.Random(number)
            for _ in range(20):
                web = some_web(chance, records, 1, 3, 5, ruled=False)
                outcomes = Outcomes(records, web, 2)
                kept = least(web).way_names()
                self.assertTrue(self.are_enough(web, outcomes, kept))
                for names in all_subsets(web.way_names()):
                    if len(names) < len(kept):
                        self.assertFalse(self.are_enough(web, outcomes, names))
                        tried += 1
        self.assertGreater(tried, 100)

    def are_enough(self, web, outcomes, names):
        """Whether each road of the web is alike to a road of these ways."""
        roads = plain_roads(web)
        few = [road for road in roads if set(road) <= set(names)]
        return all(
            any(plain_ends(web, other) == plain_ends(web, road) and outcomes.alike(other, road) for other in few)
            for road in roads)


class ByHandTest(Case):
    def setUp(self):
        self.web = day_web(
            ("direct", "red", "a", "c", []), ("first", "red", "a", "b", []), ("copy", "red", "a", "b", []),
            ("second", "red", "b", "c", []), ("blue", "blue", "b", "c", []), ("last", "red", "c", "d", []),
            ("far", "red", "a", "d", []))

    def test_ways_that_are_alike_to_each_other_and_to_a_road(self):
        self.assertEqual(needless(self.web), ("direct", "copy", "far"))
        self.assertEqual(least(self.web).way_names(), ("first", "second", "blue", "last"))
        self.assertEqual(least(self.web).office_names(), self.web.office_names())
        for name in ("first", "second", "blue", "last"):
            self.assertEqual(stand_in(self.web, name), (name,))
        self.assertEqual(stand_in(self.web, "direct"), ("first", "second"))
        self.assertEqual(stand_in(self.web, "copy"), ("first",))
        self.assertEqual(stand_in(self.web, "far"), ("first", "second", "last"))
        self.assertEqual(lean_road(self.web, ("direct", "last")), ("first", "second", "last"))
        self.assertEqual(lean_road(self.web, ["copy", "blue"]), ("first", "blue"))
        self.assertEqual(lean_road(self.web, ("far",)), ("first", "second", "last"))

    def test_few_ways_come_first(self):
        # The long road enters first, the short one last; the short one stands in for the way.
        web = Web.of(sample_book(), [("a", DAY), ("b", OPEN), ("c", OPEN), ("d", MONTH)], [
            ("ab", "red", "a", "b", []), ("bc", "red", "b", "c", []), ("cd", "red", "c", "d", []),
            ("ad", "red", "a", "d", []), ("bd", "blue", "b", "d", [])])
        self.assertEqual(needless(web), ("ad",))
        # No day stops anywhere, so the label of the way does not matter.
        self.assertEqual(stand_in(web, "ad"), ("ab", "bd"))
        self.assertEqual(lean_road(web, ("ad",)), ("ab", "bd"))

    def test_the_way_that_entered_first_stays(self):
        web = day_web(("z", "red", "b", "c", []), ("a", "red", "b", "c", []), ("m", "red", "b", "c", []))
        self.assertEqual(needless(web), ("a", "m"))
        for name in "zam":
            self.assertEqual(stand_in(web, name), ("z",))

    def test_no_needless_ways(self):
        for ways in ((), [("one", "red", "b", "c", []), ("two", "blue", "b", "c", [])]):
            web = day_web(*ways)
            self.assertEqual(needless(web), ())
            self.assertEqual(plain(least(web)), plain(web))
        self.assertEqual(needless(Web(sample_book())), ())

    def test_errors(self):
        for name in ("x", "a", ""):
            self.raises_unchanged(UnknownName, stand_in, self.web, name)
        for names in ((), ("second", "first"), ("first", "copy"), []):
            self.raises_unchanged(NotJoined, lean_road, self.web, names)
        for names in (("x",), ("second", "first", "x"), ("first", "a")):
            self.raises_unchanged(UnknownName, lean_road, self.web, names)

    def test_answers_and_arguments(self):
        self.unchanging(needless, self.web)
        self.unchanging(least, self.web)
        for name in self.web.way_names():
            self.unchanging(stand_in, self.web, name)
        self.unchanging(lean_road, self.web, ["copy", "second"])
