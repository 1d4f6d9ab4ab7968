"""Houses (points 111 to 117)."""

import itertools
import random

from formroads.answering import unanswered
from formroads.editions import Editions
from formroads.errors import (
    Clash, DuplicateName, InvalidForm, InvalidMove, InvalidName, InvalidQuery, InvalidSchema, InvalidStep, NotAnswered,
    NothingToUndo, NotJoined, RuleLost, Stopped, UnknownName,
)
from formroads.houses import House
from formroads.joining import road_summary, still
from formroads.rules import Rules
from formroads.ways import Way
from formroads.webs import Web
from tests.editionsamples import DAYS, NEST, SIZES
from tests.housesamples import do_both, long_house, sample_house, some_entry, some_houses
from tests.querysamples import all_queries, plain_answer
from tests.roadsamples import SMALL, sample_schema, sampled
from tests.samples import Case, plain, spoil
from tests.test_stops import BITS

FORM = [((DAYS[0], SIZES[1]), []), ((DAYS[1], SIZES[0]), [])]
MONTHS = [((("month", 0),), [((SIZES[1],), []), ((SIZES[0],), [])])]
KINDS = ((SMALL, 1), (SMALL, 2), (BITS, 2), ([("low", 2, None, ()), ("lower", 2, "low", (0, 0))], 2))


class Broken(Exception):
    """An error that is none of the program."""


class SmallHousesTest(Case):
    """Houses by chance beside plain houses."""

    def check_house(self, chance, house, told):
        self.assertEqual(house.traveller_names(), tuple(told.travellers))
        self.assertEqual(plain(house.editions()), plain(told.editions))
        self.assertEqual(house.journal(), told.journal)
        for name in told.travellers:
            outcome, form, office = told.state(name)
            self.assertEqual(house.outcome(name), outcome)
            self.assertEqual(house.present_form(name), form)
            self.assertEqual(house.where(name), office)
            self.assertEqual(house.history(name), told.history(name))
            self.assertEqual(house.entry_form(name), told.travellers[name]["form"])
            self.check_summary(house, told, name)
            self.check_answers(chance, house, told, name)

    def check_summary(self, house, told, name):
        ways = [Way(*facts) for facts in told.crossings(name)]
        traveller = told.travellers[name]
        start = told.editions.web_at(traveller["edition"]).office(traveller["office"])
        summary = house.summary_of(name)
        self.assertEqual(summary.facts(), (road_summary(ways) if ways else still(start)).facts())
        self.assertEqual(summary(traveller["form"]), house.outcome(name))

    def check_answers(self, chance, house, told, name):
        summary = house.summary_of(name)
        for query in sampled(chance, all_queries(told.records, summary.start), 2):
            outcome, label = house.outcome(name)
            if outcome == "stopped":
                self.assertEqual(self.raises(Stopped, house.ask, name, query).label, label)
            elif unanswered(summary, query) is not None:
                self.raises(NotAnswered, house.ask, name, query)
            else:
                form = told.travellers[name]["form"]
                self.assertEqual(house.ask(name, query), plain_answer(told.records, summary.start, query, form))

    def houses(self, number, most):
        for seed, (records, count) in enumerate(KINDS):
            yield from itertools.islice(some_houses(seed, records, count, most), number)

    def test_by_chance(self):
        stopped = moved = 0
        for chance, _, house, told in self.houses(25, 14):
            self.check_house(chance, house, told)
            for name in house.traveller_names():
                stopped += house.outcome(name)[0] == "stopped"
                moved += len(house.history(name)[3]) > 3
        self.assertGreater(stopped, 15)
        self.assertGreater(moved, 30)

    def test_each_entry(self):
        """The house beside the plain house behind each entry, and undone again behind each entry."""
        words = []
        for chance, _, house, told in self.houses(5, 2):
            for _ in range(12):
                kept, entry = plain(house), some_entry(chance, told.records, house)
                before = told.twin()
                if do_both(house, told, entry):
                    self.check_house(chance, house, told)
                    self.assertIsNone(house.undo())
                    self.assertEqual(plain(house), kept)
                    self.check_house(chance, house, before)
                    house.do(entry)
                    words.append(entry[0])
                else:
                    self.assertEqual(plain(house), kept)
        for word in ("enter", "leave", "move", "back", "kinds", "steps"):
            self.assertGreater(words.count(word), 2)

    def test_replayed(self):
        for chance, web, house, told in self.houses(12, 12):
            again = House.replayed(web, house.journal())
            self.assertIsInstance(again, House)
            self.assertEqual(plain(again), plain(house))
            self.check_house(chance, again, told)

    def test_undone_to_the_beginning(self):
        for chance, web, house, told in self.houses(8, 10):
            journal = house.journal()
            while journal:
                journal.pop()
                house.undo()
                self.assertEqual(plain(house), plain(House.replayed(web, journal)))
            self.raises(NothingToUndo, house.undo)
            self.assertEqual(plain(house), plain(House(web)))

    def test_trials(self):
        for chance, _, house, told in self.houses(8, 8):
            kept, before = plain(house), told.twin()
            try:
                with house.trial() as inside:
                    self.assertIs(inside, house)
                    for _ in range(4):
                        do_both(house, told, some_entry(chance, told.records, house))
                    self.check_house(chance, house, told)
                    raise Broken
            except Broken:
                self.assertEqual(plain(house), kept)
                self.check_house(chance, house, before)

    def test_what_the_house_gives_does_not_reach_it(self):
        for chance, _, house, _ in self.houses(4, 8):
            for name in house.traveller_names():
                for method in (house.outcome, house.present_form, house.entry_form, house.history, house.summary_of):
                    self.unchanging(method, name)
            for method in (house.journal, house.traveller_names, house.editions):
                self.unchanging(method)
            kept = plain(house)
            for given in (house.journal(), [house.present_form(name) for name in house.traveller_names()],
                          [house.entry_form(name) for name in house.traveller_names()],
                          [house.outcome(name) for name in house.traveller_names()]):
                spoil(given)
            editions = house.editions()
            for office in editions.web_at(0).office_names():
                editions.change_kinds(office, editions.web_at(editions.latest()).office(office).kinds)
            self.assertEqual(plain(house), kept)


class EnterTest(Case):
    def test_enter_and_leave(self):
        house = sample_house()
        self.assertEqual((house.traveller_names(), house.journal()), ((), []))
        self.assertIsNone(house.enter("bob", "town", MONTHS))
        self.assertIsNone(house.enter("ann", "home", FORM))
        self.assertEqual(house.traveller_names(), ("bob", "ann"))
        self.assertEqual((house.where("bob"), house.where("ann")), ("town", "home"))
        self.assertEqual(house.outcome("ann"), ("through", FORM))
        self.assertEqual(house.history("ann"), ("home", 0, (), ""))
        self.assertEqual(house.summary_of("ann").facts(), still(house.editions().web_at(0).office("home")).facts())
        self.assertIsNone(house.leave("bob"))
        self.assertEqual(house.traveller_names(), ("ann",))
        house.enter("bob", "home", [])
        self.assertEqual(house.traveller_names(), ("ann", "bob"))
        self.assertEqual(house.present_form("bob"), [])
        self.assertEqual(house.journal(), [
            ("enter", "bob", "town", MONTHS), ("enter", "ann", "home", FORM), ("leave", "bob"), ("enter", "bob", "home", [])])

    def test_errors_in_their_order(self):
        house = sample_house()
        house.enter("ann", "home", FORM)
        wrong = [((SIZES[0],), [])]
        for name, office, form, error in (
            ("", "x", wrong, InvalidName), ("Ann", "home", FORM, InvalidName), ("abcdefghi", "home", FORM, InvalidName),
            ("ann", "x", wrong, DuplicateName), ("ann", "home", FORM, DuplicateName), ("bob", "x", wrong, UnknownName),
            ("bob", "go", FORM, UnknownName), ("bob", "home", wrong, InvalidForm), ("bob", "home", MONTHS, InvalidForm),
            ("bob", "home", [((SIZES[0], SIZES[0]), [])], InvalidForm),
        ):
            kept = plain(house)
            self.raises_unchanged(error, house.enter, name, office, form)
            self.assertEqual(plain(house), kept)

    def test_rules_of_the_office(self):
        flat = sample_schema(((0, 1),), ("day", "?"), Rules((), (0,)))
        house = House(Web.of(flat.book, [("a", flat)], []))
        self.raises(InvalidForm, house.enter, "ann", "a", FORM[:1] * 2)
        house.enter("ann", "a", FORM)

    def test_the_latest_edition_counts(self):
        house = sample_house()
        house.change_kinds("home", ("day", "size"))
        self.raises(InvalidForm, house.enter, "ann", "home", [((DAYS[0], DAYS[0]), [])])
        house.enter("ann", "home", FORM)
        self.assertEqual(house.history("ann"), ("home", 1, (), ""))
        self.assertEqual(house.summary_of("ann").start.kinds, ("day", "size"))

    def test_a_name_that_comes_again(self):
        house = long_house()
        house.enter("ann", "a", FORM)
        house.move("ann", "one")
        house.change_kinds("b", ("?", "size"))
        house.leave("ann")
        self.raises(UnknownName, house.where, "ann")
        house.enter("ann", "b", FORM[:1])
        self.assertEqual(house.history("ann"), ("b", 1, (), ""))
        self.assertEqual(house.entry_form("ann"), FORM[:1])
        house.undo()
        house.undo()
        self.assertEqual(house.history("ann"), ("a", 0, ("one",), "wt"))

    def test_the_form_is_copied(self):
        house, form = sample_house(), [((("month", 0),), [((SIZES[1],), [])])]
        house.enter("ann", "town", form)
        spoil(form)
        self.assertEqual(house.present_form("ann"), [((("month", 0),), [((SIZES[1],), [])])])
        self.assertEqual(house.journal()[0][3], house.present_form("ann"))
        spoil(house.present_form("ann"))
        spoil(house.outcome("ann")[1])
        spoil(house.entry_form("ann"))
        spoil(house.journal())
        self.assertEqual(house.journal(), [("enter", "ann", "town", [((("month", 0),), [((SIZES[1],), [])])])])


class UnknownTravellerTest(Case):
    def test_before_anything_else(self):
        house = sample_house()
        house.enter("bob", "home", FORM)
        house.leave("bob")
        for name in ("ann", "bob", "", "NOT A NAME", "home", "go"):
            for method, *told in (
                (house.leave,), (house.move, "x"), (house.move, "go"), (house.back,), (house.where,), (house.outcome,),
                (house.present_form,), (house.history,), (house.summary_of,), (house.entry_form,),
                (house.ask, ("rows", 9, ())), (house.ask, ("rows", 0, ())),
            ):
                kept = plain(house)
                self.raises(UnknownName, method, name, *told)
                self.assertEqual(plain(house), kept)


class MoveTest(Case):
    def test_through(self):
        house = sample_house()
        house.enter("ann", "home", FORM)
        self.assertIsNone(house.move("ann", "go"))
        self.assertEqual(house.outcome("ann"), ("through", MONTHS))
        self.assertEqual((house.where("ann"), house.present_form("ann")), ("town", MONTHS))
        self.assertEqual(house.history("ann"), ("home", 0, ("go",), "w"))
        self.assertEqual(house.entry_form("ann"), FORM)
        self.assertEqual(house.summary_of("ann")(FORM), ("through", MONTHS))

    def test_stopped(self):
        house = sample_house()
        form = [((DAYS[0], DAYS[2]), [])]
        house.enter("bob", "home", form)
        self.assertIsNone(house.move("bob", "go"))
        self.assertEqual(house.outcome("bob"), ("stopped", "gate"))
        self.assertEqual((house.where("bob"), house.present_form("bob")), ("home", form))
        self.assertEqual(house.history("bob"), ("home", 0, ("go",), "w"))
        self.assertEqual(house.entry_form("bob"), form)
        self.assertEqual(house.journal()[-1], ("move", "bob", "go"))
        self.raises(InvalidMove, house.move, "bob", "go")
        self.assertEqual(self.raises(Stopped, house.ask, "bob", ("rows", 9, ())).label, "gate")

    def test_errors_in_their_order(self):
        house = long_house()
        house.enter("ann", "a", FORM)
        house.enter("bob", "b", [((DAYS[0], DAYS[0]), []), ((SIZES[0], SIZES[0]), [])])
        house.move("bob", "two")
        for name, way, error in (
            ("ann", "x", UnknownName), ("ann", "a", UnknownName), ("ann", "two", InvalidMove), ("bob", "two", InvalidMove),
            ("bob", "x", UnknownName), ("bob", "one", InvalidMove),
        ):
            kept = plain(house)
            self.raises(error, house.move, name, way)
            self.assertEqual(plain(house), kept)
        house.move("ann", "one")
        for way in ("one", "far"):
            self.raises(InvalidMove, house.move, "ann", way)
        house.move("ann", "two")
        self.assertEqual(house.history("ann")[2:], (("one", "two"), "ww"))

    def test_offices_with_the_same_schema(self):
        flat = sample_schema(((0,),), ("day",))
        house = House(Web.of(flat.book, [("a", flat), ("b", flat), ("c", flat)], [
            ("ab", "red", "a", "b", []), ("bc", "red", "b", "c", [])]))
        house.enter("ann", "a", [])
        self.raises(InvalidMove, house.move, "ann", "bc")


class ChangesTest(Case):
    def test_turns(self):
        house = long_house()
        house.enter("ann", "a", FORM)
        house.enter("bob", "b", [((DAYS[0], DAYS[0]), []), ((SIZES[0], SIZES[0]), [])])
        house.move("ann", "one")
        self.assertEqual(house.change_kinds("b", ("month", "?")), 1)
        self.assertEqual(house.history("ann"), ("a", 0, ("one",), "wt"))
        self.assertEqual(house.history("bob"), ("b", 0, (), "t"))
        self.assertEqual(house.present_form("ann"), [((("month", 0), SIZES[1]), []), ((("month", 0), SIZES[0]), [])])
        self.assertEqual((house.outcome("bob"), house.where("bob")), (("stopped", "b"), "b"))
        self.assertEqual(house.change_steps("two", NEST + [("unnest", 0)] + NEST), 2)
        self.assertEqual(house.history("bob"), ("b", 0, (), "tt"))
        house.enter("cay", "b", [])
        self.assertEqual(house.history("cay"), ("b", 2, (), ""))
        house.move("ann", "two")
        self.assertEqual(house.outcome("ann"), ("through", [((("month", 0),), [((SIZES[1],), []), ((SIZES[0],), [])])]))
        self.assertEqual(house.history("ann")[3], "wttw")
        self.assertEqual(house.entry_form("ann"), FORM)
        self.assertEqual(house.journal()[-4:], [
            ("kinds", "b", ("month", "?")), ("steps", "two", tuple(NEST + [("unnest", 0)] + NEST)), ("enter", "cay", "b", []),
            ("move", "ann", "two")])

    def test_kinds_and_steps_that_were_there_before(self):
        house = long_house()
        house.enter("ann", "a", FORM)
        self.assertEqual(house.change_kinds("a", ("day", "?")), 1)
        self.assertEqual(house.change_steps("one", ()), 2)
        self.assertEqual(house.history("ann"), ("a", 0, (), "tt"))
        self.assertEqual(house.present_form("ann"), FORM)

    def test_errors(self):
        house = long_house()
        house.enter("ann", "a", FORM)
        for method, told, error in (
            (house.change_kinds, ("x", ()), UnknownName), (house.change_kinds, ("a", ()), InvalidSchema),
            (house.change_kinds, ("a", ("year", "?")), UnknownName), (house.change_kinds, ("a", ("size", "?")), Clash),
            (house.change_steps, ("a", [("turn", 0)]), UnknownName), (house.change_steps, ("two", [("turn", 0)]), InvalidStep),
            (house.change_steps, ("two", []), NotJoined),
        ):
            kept = plain(house)
            self.raises_unchanged(error, method, *told)
            self.assertEqual(plain(house), kept)
        flat = sample_schema(((0,),), ("day",), Rules((), (0,)))
        parted = House(Web.of(flat.book, [("a", flat)], []))
        parted.enter("ann", "a", [((DAYS[0],), []), ((DAYS[1],), [])])
        kept = plain(parted)
        self.assertEqual(self.raises(RuleLost, parted.change_kinds, "a", ("month",)).rule, ("parted", 0))
        self.assertEqual(plain(parted), kept)

    def test_arguments_are_copied(self):
        house = long_house()
        kinds, steps = ["month", "?"], list(NEST)
        house.change_kinds("b", kinds)
        house.change_steps("two", steps)
        kept = plain(house)
        kinds[0], steps[0] = "spoiled", "spoiled"
        self.assertEqual(plain(house), kept)
        self.assertEqual(house.journal(), [("kinds", "b", ("month", "?")), ("steps", "two", tuple(NEST))])

    def test_the_turn_of_a_way_that_was_not_passed(self):
        """A traveller that a way stopped takes the turns of the end of this way, but stays where it is."""
        house = long_house()
        form = [((SIZES[0], SIZES[1]), [])]
        house.enter("bob", "b", form)
        house.move("bob", "two")
        house.change_kinds("c", ("month", "size"))
        house.change_kinds("b", ("?", "size"))
        self.assertEqual(house.history("bob"), ("b", 0, ("two",), "wtt"))
        self.assertEqual((house.where("bob"), house.outcome("bob")), ("b", ("stopped", "blue")))
        self.assertEqual(house.summary_of("bob").end.kinds, ("month", "size"))
        self.assertEqual(house.summary_of("bob")(form), ("stopped", "blue"))
        # Without the way it takes the turns of the office where it stands.
        house.back("bob")
        self.assertEqual(house.history("bob"), ("b", 0, (), "tt"))
        self.assertEqual(house.outcome("bob"), ("through", form))
        self.assertEqual(house.summary_of("bob").end.kinds, ("?", "size"))


class BackTest(Case):
    def test_back(self):
        house = long_house()
        house.enter("ann", "a", FORM)
        house.move("ann", "one")
        house.change_kinds("b", ("month", "?"))
        house.move("ann", "two")
        house.change_kinds("a", ("day", "size"))
        self.assertEqual(house.history("ann")[2:], (("one", "two"), "wtwt"))
        self.assertIsNone(house.back("ann"))
        self.assertEqual(house.history("ann")[2:], (("one",), "wtt"))
        self.assertEqual(house.where("ann"), "b")
        self.assertEqual(house.present_form("ann"), [((("month", 0), SIZES[1]), []), ((("month", 0), SIZES[0]), [])])
        self.assertEqual(house.entry_form("ann"), FORM)
        house.back("ann")
        self.assertEqual(house.history("ann")[2:], ((), "tt"))
        self.assertEqual((house.where("ann"), house.present_form("ann")), ("a", FORM))
        self.assertEqual(house.journal()[-2:], [("back", "ann"), ("back", "ann")])
        kept = plain(house)
        self.raises(InvalidMove, house.back, "ann")
        self.assertEqual(plain(house), kept)
        # The way may be taken again, as it is now.
        house.move("ann", "one")
        self.assertEqual(house.present_form("ann")[0], ((("month", 0), SIZES[1]), []))

    def test_editions_that_stop_it_where_it_comes_back(self):
        house = long_house()
        form = [((DAYS[0], DAYS[0]), [])]
        house.enter("ann", "a", form)
        house.move("ann", "one")
        house.change_kinds("a", ("day", "size"))
        self.assertEqual(house.outcome("ann"), ("through", form))
        house.back("ann")
        self.assertEqual((house.outcome("ann"), house.where("ann")), (("stopped", "a"), "a"))
        self.assertEqual((house.present_form("ann"), house.entry_form("ann")), (form, form))
        self.raises(InvalidMove, house.back, "ann")
        house.undo()
        self.assertEqual(house.outcome("ann"), ("through", form))

    def test_a_stopped_traveller_comes_back(self):
        house = long_house()
        form = [((DAYS[0], DAYS[0]), [])]
        house.enter("ann", "a", form)
        house.move("ann", "one")
        house.change_kinds("b", ("?", "size"))
        self.assertEqual((house.outcome("ann"), house.where("ann")), (("stopped", "b"), "b"))
        house.change_kinds("b", ("?", "size"))
        house.back("ann")
        self.assertEqual((house.outcome("ann"), house.history("ann")), (("through", form), ("a", 0, (), "tt")))

    def test_what_stopped_it_before_its_last_way_is_not_possible(self):
        # A stopped traveller takes no way, so the way is the last crossing that it passed, or it stopped at it.
        house = long_house()
        house.enter("ann", "b", [((SIZES[0], SIZES[0]), [])])
        house.move("ann", "two")
        self.assertEqual(house.outcome("ann"), ("stopped", "blue"))
        house.back("ann")
        self.assertEqual((house.outcome("ann")[0], house.where("ann")), ("through", "b"))


class AskTest(Case):
    def test_ask(self):
        house = sample_house()
        house.enter("ann", "home", FORM)
        self.assertEqual(house.ask("ann", ("most", 0, "day", ((1, "?"),))), [((SIZES[0],), 1), ((SIZES[1],), 0)])
        house.move("ann", "go")
        self.assertEqual(house.ask("ann", ("rows", 0, ((0, "month"),))), [((("month", 0),), 2)])
        for query, error in (
            (("rows", 0, ((0, "day"),)), NotAnswered), (("rows", 1, ()), InvalidQuery), (("rows", 0, ((0, "size"),)), InvalidQuery),
        ):
            kept = plain(house)
            self.raises_unchanged(error, house.ask, "ann", query)
            self.assertEqual(plain(house), kept)
        self.unchanging(house.ask, "ann", ("rows", 0, ((0, "month"), (1, "?"))))
        # Queries are about the office and the edition of entry.
        house.change_kinds("home", ("day", "size"))
        self.raises(InvalidQuery, house.ask, "ann", ("rows", 0, ((1, "size"),)))
        house.enter("bob", "home", FORM)
        self.assertEqual(house.ask("bob", ("rows", 0, ((1, "size"),))), [((SIZES[0],), 1), ((SIZES[1],), 1)])


class JournalTest(Case):
    def test_do(self):
        house = long_house()
        entries = [
            ("enter", "ann", "a", FORM), ("move", "ann", "one"), ("kinds", "b", ("month", "?")), ("back", "ann"),
            ("steps", "two", tuple(NEST)), ("leave", "ann")]
        for number, entry in enumerate(entries, start=1):
            self.assertIsNone(house.do(entry))
            self.assertEqual(house.journal(), entries[:number])
        for entry, error in (
            (("enter", "ann", "x", FORM), UnknownName), (("move", "ann", "one"), UnknownName), (("back", "ann"), UnknownName),
            (("kinds", "a", ()), InvalidSchema), (("steps", "two", ()), NotJoined), (("leave", "ann"), UnknownName),
        ):
            kept = plain(house)
            self.raises_unchanged(error, house.do, entry)
            self.assertEqual(plain(house), kept)

    def test_replayed(self):
        web = long_house().editions().web_at(0)
        entries = [("enter", "ann", "a", FORM), ("move", "ann", "one")]
        house = House.replayed(web, entries)
        self.assertEqual(house.history("ann"), ("a", 0, ("one",), "w"))
        self.assertEqual(house.journal(), entries)
        self.assertEqual(plain(House.replayed(web, [])), plain(House(web)))
        self.raises_unchanged(UnknownName, House.replayed, web, entries + [("back", "bob")])
        self.raises_unchanged(InvalidMove, House.replayed, web, entries + entries[1:])
        self.unchanging(House.replayed, web, entries)

    def test_undo(self):
        house = sample_house()
        self.raises(NothingToUndo, house.undo)
        house.enter("ann", "home", FORM)
        house.enter("bob", "home", [])
        house.leave("ann")
        self.assertIsNone(house.undo())
        self.assertEqual(house.traveller_names(), ("ann", "bob"))
        house.change_kinds("home", ("day", "size"))
        house.undo()
        self.assertEqual((house.editions().latest(), house.history("ann")), (0, ("home", 0, (), "")))
        # Calls that raise add no entry, so there is nothing of them to take back.
        self.raises(UnknownName, house.leave, "cay")
        house.undo()
        house.undo()
        self.assertEqual((house.traveller_names(), house.journal()), ((), []))
        self.raises(NothingToUndo, house.undo)

    def test_editions(self):
        house = sample_house()
        editions = house.editions()
        self.assertIsInstance(editions, Editions)
        self.assertEqual(editions.change_kinds("home", ("day", "size")), 1)
        self.assertEqual(house.editions().latest(), 0)
        house.change_kinds("home", ("day", "size"))
        house.change_kinds("home", ("day", "size"))
        self.assertEqual((house.editions().latest(), editions.latest()), (2, 1))


class TrialTest(Case):
    def test_a_block_without_an_error(self):
        house = sample_house()
        with house.trial() as inside:
            self.assertIs(inside, house)
            inside.enter("ann", "home", FORM)
        self.assertEqual(house.traveller_names(), ("ann",))
        house.undo()
        self.assertEqual(house.traveller_names(), ())

    def test_an_error_goes_on(self):
        house = sample_house()
        house.enter("ann", "home", FORM)
        kept = plain(house)
        with self.assertRaises(UnknownName):
            with house.trial():
                house.move("ann", "go")
                house.change_kinds("home", ("day", "size"))
                house.leave("bob")
        self.assertEqual(plain(house), kept)
        with self.assertRaises(KeyboardInterrupt):
            with house.trial():
                house.undo()
                raise KeyboardInterrupt
        self.assertEqual(plain(house), kept)

    def test_an_error_that_is_caught_inside(self):
        house = sample_house()
        with house.trial():
            house.enter("ann", "home", FORM)
            self.raises(DuplicateName, house.enter, "ann", "home", FORM)
        self.assertEqual(house.traveller_names(), ("ann",))

    def test_a_trial_within_a_trial(self):
        house = sample_house()
        with house.trial():
            house.enter("ann", "home", FORM)
            kept = plain(house)
            with self.assertRaises(Broken):
                with house.trial():
                    house.move("ann", "go")
                    raise Broken
            self.assertEqual(plain(house), kept)
        self.assertEqual(plain(house), kept)
        with self.assertRaises(Broken):
            with house.trial():
                house.move("ann", "go")
                with house.trial():
                    house.leave("ann")
                self.assertEqual(house.traveller_names(), ())
                raise Broken
        self.assertEqual(plain(house), kept)

    def test_one_object_for_several_blocks(self):
        house = sample_house()
        trial = house.trial()
        house.enter("ann", "home", FORM)
        kept = plain(house)
        # What the house was when the block was entered, not when the object was made.
        with self.assertRaises(Broken):
            with trial:
                house.leave("ann")
                raise Broken
        self.assertEqual(plain(house), kept)
        with self.assertRaises(Broken):
            with trial:
                house.move("ann", "go")
                inner = plain(house)
                with self.assertRaises(Broken):
                    with trial:
                        house.back("ann")
                        raise Broken
                self.assertEqual(plain(house), inner)
                raise Broken
        self.assertEqual(plain(house), kept)

    def test_entries_that_are_undone_inside(self):
        house = sample_house()
        house.enter("ann", "home", FORM)
        house.move("ann", "go")
        kept = plain(house)
        with self.assertRaises(NothingToUndo):
            with house.trial():
                house.undo()
                house.undo()
                house.enter("bob", "town", [])
                house.undo()
                house.undo()
        self.assertEqual(plain(house), kept)
        house.undo()
        self.assertEqual(house.where("ann"), "home")


class LongJournalTest(Case):
    def test_many_entries(self):
        house = sample_house()
        house.enter("ann", "home", FORM)
        for _ in range(150):
            house.move("ann", "go")
            house.back("ann")
        self.assertEqual(len(house.journal()), 301)
        for _ in range(150):
            house.undo()
        self.assertEqual((len(house.journal()), house.where("ann")), (151, "home"))

    def test_many_editions(self):
        chance = random.Random(5)
        house = sample_house()
        house.enter("ann", "home", FORM)
        for number in range(1, 21):
            self.assertEqual(house.change_kinds("home", chance.choice((("day", "?"), ("day", "size")))), number)
        house.move("ann", "go")
        self.assertEqual(house.history("ann"), ("home", 0, ("go",), "t" * 20 + "w"))
        self.assertEqual(house.entry_form("ann"), FORM)
        house.back("ann")
        self.assertEqual(house.present_form("ann"), FORM)
