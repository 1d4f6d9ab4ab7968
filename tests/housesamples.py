"""Houses for several tests, and a house in the plainest words of DOC.md.

A plain house keeps the forms that entered and nothing that became of them: whatever is asked, each form goes its whole
way anew. Its methods are called as those of a house, and raise nothing.
"""

import copy
import random

from formroads.editions import Editions
from formroads.errors import Clash, InvalidForm, RuleLost
from formroads.houses import House
from formroads.ways import Way
from formroads.webs import Web
from tests.editionsamples import NEST, latest_web, plain_route
from tests.roadsamples import forms_of, plain_send, sample_schema, sampled
from tests.websamples import some_kinds, some_steps, some_web


class PlainHouse:
    def __init__(self, records, web):
        self.records = records
        self.editions = Editions(web)
        self.travellers = {}
        self.journal = []

    def twin(self):
        other = PlainHouse(self.records, self.editions.web_at(0))
        other.editions = self.editions.twin()
        other.travellers = copy.deepcopy(self.travellers)
        other.journal = copy.deepcopy(self.journal)
        return other

    def do(self, entry):
        word, *told = entry
        self.journal.append(entry)
        if word == "enter":
            self.travellers[told[0]] = {
                "office": told[1], "edition": self.editions.latest(), "form": copy.deepcopy(told[2]), "names": [], "moves": ""}
        elif word == "leave":
            del self.travellers[told[0]]
        elif word == "move":
            self.travellers[told[0]]["names"].append(told[1])
            self.travellers[told[0]]["moves"] += "w"
        elif word == "back":
            traveller = self.travellers[told[0]]
            traveller["names"].pop()
            before, _, behind = traveller["moves"].rpartition("w")
            traveller["moves"] = before + behind
        else:
            change = self.editions.change_kinds if word == "kinds" else self.editions.change_steps
            change(told[0], told[1])
            for traveller in self.travellers.values():
                traveller["moves"] += "t"

    def crossings(self, name):
        """The crossings as name, label, schemas and steps."""
        told = self.travellers[name]
        return plain_route(self.editions, told["names"], told["moves"], told["edition"], told["office"])

    def state(self, name):
        """The outcome, the present form, and the office where the traveller stands."""
        told = self.travellers[name]
        form, passed, label = told["form"], 0, None
        for facts in self.crossings(name):
            way = Way(*facts)
            behind = plain_send(self.records, way, form)
            if behind is None:
                label = way.label
                break
            form, passed = behind, passed + 1
        taken = told["moves"][:passed].count("w")
        office = told["office"]
        if taken:
            office = self.editions.web_at(0).ends(told["names"][taken - 1])[1]
        outcome = ("through", form) if label is None else ("stopped", label)
        return outcome, form, office

    def history(self, name):
        told = self.travellers[name]
        return (told["office"], told["edition"], tuple(told["names"]), told["moves"])


def sample_house():
    """The house of the last example of DOC.md."""
    flat = sample_schema(((0, 1),), ("day", "?"))
    deep = sample_schema(((0,), (1,)), ("month", "size"))
    return House(Web.of(flat.book, [("home", flat), ("town", deep)], [("go", "gate", "home", "town", NEST)]))


def long_house():
    """A house with a road of two ways from an office of days over an open one to one that keeps months and sizes."""
    flat = sample_schema(((0, 1),), ("day", "?"))
    middle = sample_schema(((0, 1),), ("?", "?"))
    deep = sample_schema(((0,), (1,)), ("month", "?"))
    return House(Web.of(flat.book, [("a", flat), ("b", middle), ("c", deep)], [
        ("one", "red", "a", "b", []), ("two", "blue", "b", "c", NEST), ("far", "green", "a", "c", NEST)]))


def some_entry(chance, records, house):
    """An entry that may be done in the house, by chance, or one that raises Clash or RuleLost."""
    web, names = latest_web(house), house.traveller_names()
    word = chance.choice(("enter", "move", "move", "move", "back", "kinds", "kinds", "steps", "leave"))
    if word == "enter" or not names:
        free = [name for name in ("ann", "bob", "cay", "dan") if name not in names]
        office = chance.choice(web.office_names())
        forms = [form for form in sampled(chance, forms_of(records, web.office(office), 2), 40)]
        forms = [form for form in forms if web.office(office).fits(form)]
        if free and forms:
            return ("enter", chance.choice(free), office, chance.choice(forms))
        word = "kinds"
    name = chance.choice(names) if names else None
    if word == "move":
        ways = [way for way in web.way_names() if web.ends(way)[0] == house.where(name)]
        if ways and house.outcome(name)[0] == "through":
            return ("move", name, chance.choice(ways))
        word = "kinds"
    if word == "back" and house.history(name)[2]:
        return ("back", name)
    if word == "steps" and web.way_names():
        way = web.way(chance.choice(web.way_names()))
        return ("steps", way.name, tuple(some_steps(chance, way.start.shape, way.end.shape)))
    if word == "leave" and chance.random() < 0.5:
        return ("leave", name)
    office = chance.choice(web.office_names())
    return ("kinds", office, tuple(some_kinds(chance, records, web, office)))


def some_houses(number, records, count, most):
    """Houses with a plain house each, in which up to so many entries have been done."""
    chance = random.Random(number)
    while True:
        web = some_web(chance, records, count, chance.randint(2, 4), 5)
        house, told = House(web), PlainHouse(records, web)
        for _ in range(chance.randint(1, most)):
            do_both(house, told, some_entry(chance, records, house))
        yield chance, web, house, told


def do_both(house, told, entry):
    """Does the entry in both houses, or in none if it raises an error."""
    try:
        house.do(entry)
    except (Clash, RuleLost, InvalidForm):
        return False
    told.do(entry)
    return True
