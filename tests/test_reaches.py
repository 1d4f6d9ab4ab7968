"""How far changes reach (points 109 and 110)."""

import random

from formroads.completing import completion
from formroads.editions import Editions
from formroads.errors import Conflict, InvalidMove
from formroads.filledwebs import places_of
from formroads.grids import square_difference
from formroads.reaches import moved_places, reach
from formroads.webs import Web
from tests.editionsamples import NEST
from tests.roadsamples import sample_schema
from tests.samples import Case, sample_book
from tests.test_grids import changed_web, small_editions
from tests.websamples import same_schema

ONE = sample_schema(((0,),), ("?",))


def row_of(*kinds):
    """Editions of offices of one column, each linked to the next one."""
    names = "abcdef"[:len(kinds)]
    ways = [("go" + start, "red", start, end, []) for start, end in zip(names, names[1:])]
    return Editions(Web.of(sample_book(), [(name, ONE.with_kinds((kind,))) for name, kind in zip(names, kinds)], ways))


class ReachTest(Case):
    def test_by_chance(self):
        told = []
        for _, _, editions in small_editions(15):
            for edition in range(1, editions.latest() + 1):
                before, web = editions.web_at(edition - 1), editions.web_at(edition)
                offices = [
                    name for name in web.office_names() if not same_schema(before.office(name), web.office(name))]
                ways, squares = [], []
                for name in web.way_names():
                    if before.way(name).steps != web.way(name).steps or set(web.ends(name)) & set(offices):
                        ways.append(name)
                    if square_difference(editions, name, edition - 1) is not None:
                        squares.append(name)
                found = reach(editions, edition)
                self.assertEqual(found, (tuple(offices), tuple(ways), tuple(squares)))
                told += [(bool(offices), bool(ways), bool(squares))]
        for wanted in ((True, True, False), (True, True, True), (False, True, False), (False, False, False), (True, False, False)):
            self.assertIn(wanted, told)

    def test_by_hand(self):
        editions = changed_web()
        self.assertEqual(reach(editions, 1), (("b",), ("one", "two"), ("two",)))
        # Whatever comes to the end stops there or at its turn, under another label.
        self.assertEqual(reach(editions, 2), (("c",), ("two", "far"), ("two", "far")))
        editions.change_kinds("a", ("day", "?"))
        editions.change_steps("far", NEST + [("unnest", 0)] + NEST)
        editions.change_steps("far", NEST + [("unnest", 0)] + NEST)
        self.assertEqual(reach(editions, 3), ((), (), ()))
        self.assertEqual(reach(editions, 4), ((), ("far",), ()))
        self.assertEqual(reach(editions, 5), ((), (), ()))

    def test_steps_alone(self):
        deep = sample_schema(((0,), (1,)), ("day", "day"))
        web = Web.of(deep.book, [("a", deep), ("b", deep)], [("go", "red", "a", "b", [])])
        editions = Editions(web)
        editions.change_steps("go", [("unnest", 0), ("nest", 0, (1,))])
        self.assertEqual(reach(editions, 1), ((), ("go",), ("go",)))

    def test_errors(self):
        editions = changed_web()
        for edition in (0, -1, 3, 9):
            self.raises_unchanged(InvalidMove, reach, editions, edition)
            self.raises_unchanged(InvalidMove, moved_places, editions, edition)


class MovedPlacesTest(Case):
    def test_by_chance(self):
        moved = 0
        for chance, _, editions in small_editions(25):
            for edition in range(1, editions.latest() + 1):
                moved += self.check_places(editions, edition)
        self.assertGreater(moved, 30)

    def check_places(self, editions, edition):
        before, web = editions.web_at(edition - 1), editions.web_at(edition)
        tables = []
        for one in (before, web):
            try:
                tables.append(completion(places_of(one)))
            except Conflict as error:
                raised = self.raises(Conflict, moved_places, editions, edition)
                self.assertEqual(raised.walks, error.walks)
                return 0
        found = moved_places(editions, edition)
        self.assertIsInstance(found, list)
        self.assertEqual(found, [place for place, _ in places_of(web).rows if tables[0][place] != tables[1][place]])
        changed = [name for name in web.office_names() if not same_schema(before.office(name), web.office(name))]
        for place in found:
            reached = places_of(web).reached_from(place)
            self.assertTrue(place[0] in changed or any(other[0] in changed for other in reached))
        return len(found)

    def test_by_hand(self):
        editions = row_of("?", "?", "?", "day")
        editions.change_kinds("d", ("month",))
        self.assertEqual(moved_places(editions, 1), [("a", 0), ("b", 0), ("c", 0), ("d", 0)])
        editions.change_kinds("b", ("day",))
        self.assertEqual(moved_places(editions, 2), [("a", 0), ("b", 0)])
        editions.change_kinds("b", ("day",))
        self.assertEqual(moved_places(editions, 3), [])
        # A place gets by its own kind what it had by the completion.
        editions = row_of("?", "?", "month")
        editions.change_kinds("b", ("month",))
        self.assertEqual(moved_places(editions, 1), [])

    def test_conflicts(self):
        editions = row_of("day", "?", "?")
        editions.change_kinds("c", ("size",))
        error = self.raises(Conflict, moved_places, editions, 1)
        self.assertEqual(error.walks, ([("a", 0), ("b", 0), ("c", 0)],))
        editions.change_kinds("c", ("?",))
        self.raises_unchanged(Conflict, moved_places, editions, 2)
        editions.change_kinds("c", ("month",))
        self.assertEqual(moved_places(editions, 3), [("b", 0), ("c", 0)])

    def two_conflicts(self):
        """The first edition has a conflict of two walks, the next one a conflict of one walk."""
        kinds = ("?", "?", "size", "day")
        web = Web.of(sample_book(), [(name, ONE.with_kinds((kind,))) for name, kind in zip("abcd", kinds)], [
            ("ab", "red", "a", "b", []), ("bc", "red", "b", "c", []), ("bd", "red", "b", "d", [])])
        editions = Editions(web)
        editions.change_kinds("a", ("month",))
        return editions

    def test_two_conflicts(self):
        # The edition before tells the walks.
        editions = self.two_conflicts()
        error = self.raises(Conflict, moved_places, editions, 1)
        self.assertEqual(error.walks, ([("a", 0), ("b", 0), ("c", 0)], [("a", 0), ("b", 0), ("d", 0)]))
        editions.change_kinds("a", ("month",))
        error = self.raises(Conflict, moved_places, editions, 2)
        self.assertEqual(error.walks, ([("a", 0), ("b", 0), ("c", 0)],))
        # Editions that do not exist come before conflicts.
        self.raises_unchanged(InvalidMove, moved_places, editions, 3)

    def test_freshness(self):
        editions = changed_web()
        self.unchanging(reach, editions, 1)
        self.unchanging(moved_places, editions, 2)
        self.raises_unchanged(Conflict, moved_places, self.two_conflicts(), 1)
