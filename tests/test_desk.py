"""Desks (points 119 and 120)."""

import itertools
import random

from formroads.desk import Desk
from formroads.errors import (
    Clash, DuplicateName, InvalidForm, InvalidMove, InvalidQuery, InvalidSchema, InvalidStep, InvalidText, NotAnswered,
    NothingToUndo, Stopped, UnknownName,
)
from formroads.houses import House
from formroads.journals import write_entry
from formroads.writing import write_form, write_value
from tests.housesamples import long_house, sample_house, some_entry, some_houses
from tests.querysamples import all_queries
from tests.roadsamples import SMALL, sampled
from tests.samples import Case, plain
from tests.test_stops import BITS

LINES = ["enter ann home 0 day:0 size:1 / 0 day:1 size:0", "move ann go"]


def desk_with(*lines):
    house = sample_house()
    desk = Desk(house)
    desk.run_all(list(lines))
    return house, desk


class ExampleTest(Case):
    def test_the_example(self):
        house, desk = desk_with()
        self.assertEqual(desk.run_all(LINES + ["show ann", "origin ann"]), [
            [], [], ["ann town through", "0 month:0", "1 size:1", "1 size:0"], ["0 day:0 size:1", "0 day:1 size:0"]])
        self.assertEqual(desk.run_all(["enter bob home 0 day:0 day:2", "move bob go", "list"]), [
            [], [], ["ann town through", "bob home stopped gate"]])
        self.assertEqual(desk.run("ask ann rows 0 0:month"), ["month:0 2"])
        # The very house with which the desk is made.
        self.assertEqual(house.traveller_names(), ("ann", "bob"))
        house.leave("ann")
        self.assertEqual(desk.run("list"), ["bob home stopped gate"])


class RunTest(Case):
    def test_entries(self):
        for lines, told in (
            (("enter ann home",), ("enter", "ann", "home", [])),
            ((*LINES, "leave ann"), ("leave", "ann")), (LINES, ("move", "ann", "go")), ((*LINES, "back ann"), ("back", "ann")),
            (("kinds home day,size",), ("kinds", "home", ("day", "size"))),
            (("steps go nest 0 1 / unnest 0 / nest 0 1",), ("steps", "go", (("nest", 0, (1,)), ("unnest", 0), ("nest", 0, (1,))))),
        ):
            house, desk = desk_with(*lines[:-1])
            self.assertEqual(desk.run(lines[-1]), [])
            self.assertEqual(house.journal()[-1], told)
            self.assertEqual(desk.run("journal"), list(lines))

    def test_undo(self):
        house, desk = desk_with(*LINES)
        self.assertEqual(desk.run("undo"), [])
        self.assertEqual(house.where("ann"), "home")
        self.assertEqual(desk.run("undo"), [])
        self.raises(NothingToUndo, desk.run, "undo")
        self.assertEqual((desk.run("list"), desk.run("journal")), ([], []))

    def test_show_and_origin(self):
        _, desk = desk_with(*LINES, "enter bob home", "enter cay home 0 day:0 day:2", "move cay go")
        self.assertEqual(desk.run("show ann"), ["ann town through", "0 month:0", "1 size:1", "1 size:0"])
        self.assertEqual(desk.run("show bob"), ["bob home through"])
        self.assertEqual(desk.run("show cay"), ["cay home stopped gate", "0 day:0 day:2"])
        self.assertEqual(desk.run("origin ann"), ["0 day:0 size:1", "0 day:1 size:0"])
        self.assertEqual(desk.run("origin bob"), [])
        self.assertEqual(desk.run("origin cay"), ["0 day:0 day:2"])
        for word in ("dan", "Ann", "?", "0", "x:1", "/", "abcdefghijkl", "a~b"):
            self.raises(UnknownName, desk.run, "show " + word)
            self.raises(UnknownName, desk.run, "origin " + word)

    def test_list(self):
        _, desk = desk_with("enter zoe home", "enter ann home 0 day:0 day:2", "move ann go", "enter bob town")
        self.assertEqual(desk.run("list"), ["zoe home through", "ann home stopped gate", "bob town through"])

    def test_ask(self):
        _, desk = desk_with(*LINES, "enter bob home 0 day:2 size:1 / 0 day:0 size:0", "enter cay home", "enter dan home 0 day:0 day:2",
                            "move dan go")
        for line, wanted in (
            ("ask ann rows 0", ["2"]), ("ask ann rows 0 0:month", ["month:0 2"]), ("ask ann rows 0 1:?", ["size:0 1", "size:1 1"]),
            ("ask ann most 0 month", ["0"]), ("ask bob most 0 day", ["2"]), ("ask bob most 0 month 1:?", ["size:0 0", "size:1 1"]),
            ("ask bob rows 0 0:month 1:?", ["month:0 size:0 1", "month:1 size:1 1"]), ("ask cay rows 0", []),
            ("ask bob most 0 day 0:day 1:?", ["day:0 size:0 0", "day:2 size:1 2"]),
        ):
            self.assertEqual(desk.run(line), wanted)
        for line, error in (
            ("ask ann rows 0 0:day", NotAnswered), ("ask ann rows 1", InvalidQuery), ("ask ann rows 0 0:size", InvalidQuery),
            ("ask ann rows 0 0:other", InvalidQuery), ("ask ann rows 0 1:? 0:month", InvalidQuery), ("ask eve rows 9", UnknownName),
            ("ask ann most 0 day", NotAnswered), ("ask ann most 9 day", InvalidQuery),
        ):
            self.raises(error, desk.run, line)
        self.assertEqual(self.raises(Stopped, desk.run, "ask dan rows 9").label, "gate")

    def test_lines_that_are_none(self):
        house, desk = desk_with(*LINES)
        kept = plain(house)
        for line in (
            "", " ", "undo ann", "undo ", " undo", "list ann", "list ", "journal 1", "show", "show ann bob", "show ", "origin",
            "origin ann bob", "ask", "ask ann", "ask ann rows", "ask ann most", "ask ann most 0", "ask ann least 0", "ask rows 0",
            "ask ann row 0", "other", "Undo", "LIST", "enter ann", "leave", "move ann", "kinds home", "steps", "show  ann", "/",
            "ask Ann rows 0", "ask ? rows 0", "ask abcdefghi rows 0", "ask ann rows x", "ask ann rows -1", "ask ann rows 00",
            "ask ann rows 0:day", "ask ann rows 0 0", "ask ann rows 0 0:", "ask ann rows 0 :day", "ask ann rows 0 0:Day",
            "ask ann rows 0 x:day", "ask ann rows 0 00:day", "ask ann rows 0 0:day:1", "ask ann rows 0 0:month ",
            "ask ann rows 0 0:abcdefghi", "ask ann rows 0  0:month", "ask ann most 0 ?", "ask ann most 0 Day", "ask ann most 0 0:day",
            "ask ann most x day", "ask ann most 01 day", "ask ann most 0 day x", "ask ann most 0 day 0:??", "ask ann rows 0 0:month x",
            "ask ann rows 1234567", "ask nobody rows x", "ask ann most 0 day day",
            "ask ann least 0 day", "ask ann row 0 month", "tell ann rows 0", "tell ann most 0 month", "ask ann rows", "ask ann most day 0",
        ):
            self.raises(InvalidText, desk.run, line)
            self.assertEqual(plain(house), kept)

    def test_errors(self):
        house, desk = desk_with(*LINES)
        for line, error in (
            ("enter Bob home 1 day:1", InvalidText), ("enter bob home 1 day:1", InvalidForm), ("enter ann home", DuplicateName),
            ("enter ann home 1 day:1", InvalidForm), ("enter bob x", UnknownName), ("enter bob home 0 size:0 size:0", InvalidForm),
            ("enter bob home 0 day:9 size:0", InvalidForm), ("enter bob home 0 other:0 size:0", InvalidForm), ("leave bob", UnknownName),
            ("move bob x", UnknownName), ("move ann x", UnknownName), ("move ann go", InvalidMove), ("back bob", UnknownName),
            ("kinds home day", InvalidSchema), ("kinds home day,day,day,day,day", InvalidSchema), ("kinds home size,?", Clash),
            ("kinds other day", UnknownName), ("steps go unnest 0", InvalidStep), ("steps home", UnknownName),
        ):
            kept = plain(house)
            self.raises(error, desk.run, line)
            self.assertEqual(plain(house), kept)

    def test_by_chance(self):
        for seed, (records, count) in enumerate(((SMALL, 2), (BITS, 2), (SMALL, 1))):
            for chance, web, house, _ in itertools.islice(some_houses(seed, records, count, 8), 8):
                other = House(web)
                desk = Desk(other)
                lines = [write_entry(entry) for entry in house.journal()]
                self.assertEqual(desk.run_all(lines), [[] for _ in lines])
                self.assertEqual(plain(other), plain(house))
                self.assertEqual(desk.run("journal"), lines)
                self.check_lines(chance, records, other, desk)

    def check_lines(self, chance, records, house, desk):
        told = []
        for name in house.traveller_names():
            outcome, label = house.outcome(name)
            told.append(" ".join([name, house.where(name)] + (["stopped", label] if outcome == "stopped" else ["through"])))
            self.assertEqual(desk.run("show " + name), told[-1:] + write_form(house.present_form(name)))
            self.assertEqual(desk.run("origin " + name), write_form(house.entry_form(name)))
            self.check_questions(chance, records, house, desk, name)
        self.assertEqual(desk.run("list"), told)

    def check_questions(self, chance, records, house, desk, name):
        for query in sampled(chance, all_queries(records, house.summary_of(name).start), 4):
            groups = [f"{column}:{kind}" for column, kind in query[-1]]
            line = " ".join(["ask", name, *map(str, query[:-1]), *groups])
            try:
                rows = house.ask(name, query)
            except (Stopped, NotAnswered, InvalidQuery) as error:
                self.raises(type(error), desk.run, line)
            else:
                wanted = [" ".join([*map(write_value, key), str(number)]) for key, number in rows]
                self.assertEqual(desk.run(line), wanted)


class RunAllTest(Case):
    def test_answers(self):
        house, desk = desk_with()
        self.assertEqual(desk.run_all([]), [])
        self.assertEqual(desk.run_all(("list", "journal")), [[], []])
        self.assertEqual(desk.run_all(LINES + ["journal", "undo", "list"]), [[], [], LINES, [], ["ann home through"]])
        self.assertEqual(house.journal()[0][0], "enter")

    def test_the_last_line_fails(self):
        house, desk = desk_with(LINES[0])
        kept = plain(house)
        for lines, error in (
            (LINES[1:] + ["leave ann", "leave ann"], UnknownName), (["move ann go", "other"], InvalidText),
            (["undo", "undo"], NothingToUndo), (["kinds home day,size", "enter bob home 0 day:0 day:0"], InvalidForm),
            (["move ann go", "move ann go", "list"], InvalidMove), (["leave ann", "show ann"], UnknownName), ([""], InvalidText),
            (["enter bob home", "undo", "undo", "enter cay home", "enter bob home 1 day:1"], InvalidForm),
        ):
            self.raises_unchanged(error, desk.run_all, lines)
            self.assertEqual(plain(house), kept)
        # Line by line, what comes before the error stays.
        desk.run("move ann go")
        self.raises(InvalidMove, desk.run, "move ann go")
        self.assertEqual(house.where("ann"), "town")

    def test_within_a_trial(self):
        house, desk = desk_with(LINES[0])
        kept = plain(house)
        with self.assertRaises(UnknownName):
            with house.trial():
                desk.run_all(["move ann go", "kinds home day,size"])
                desk.run_all(["leave bob"])
        self.assertEqual(plain(house), kept)
        with house.trial():
            desk.run("move ann go")
            self.raises(UnknownName, desk.run_all, ["back ann", "leave bob"])
        self.assertEqual(house.where("ann"), "town")

    def test_by_chance(self):
        chance = random.Random(120)
        for _, web, house, _ in itertools.islice(some_houses(3, SMALL, 2, 6), 6):
            kept, lines = plain(house), []
            trial = House.replayed(web, house.journal())
            for _ in range(5):
                entry = some_entry(chance, SMALL, trial)
                try:
                    trial.do(entry)
                except Clash:
                    continue
                lines.append(write_entry(entry))
            self.raises(InvalidText, Desk(house).run_all, lines + ["other"])
            self.assertEqual(plain(house), kept)
            Desk(house).run_all(lines)
            self.assertEqual(plain(house), plain(trial))


class FreshnessTest(Case):
    def test_answers(self):
        house = long_house()
        desk = Desk(house)
        desk.run_all(["enter ann a 0 day:0 day:1", "move ann one", "kinds b month,?"])
        for line in ("list", "journal", "show ann", "origin ann", "ask ann rows 0"):
            self.unchanging(desk.run, line)
            self.unchanging(desk.run_all, [line, line])
