"""Houses: offices whose web changes while forms are under way."""

from formroads.answering import answer_back
from formroads.editions import Editions
from formroads.errors import DuplicateName, InvalidMove, NothingToUndo, Stopped, UnknownName
from formroads.forms import copy_form
from formroads.grids import crossings
from formroads.joining import road_summary, still
from formroads.travellers import Traveller
from formroads.trials import Trial
from formroads.words import check_name


class House:
    """The editions of a web, travellers, and a journal."""

    def __init__(self, web):
        # What the house was behind each call: the entry, the editions, and the travellers by name. Neither the list
        # nor what it holds is ever changed, so an earlier list brings back all that was then.
        self.moments = [(None, Editions(web), {})]

    @staticmethod
    def replayed(web, entries):
        """A new house in which the entries have been done in order."""
        house = House(web)
        for entry in entries:
            house.do(entry)
        return house

    def _editions(self):
        return self.moments[-1][1]

    def _travellers(self):
        return self.moments[-1][2]

    def _web(self):
        editions = self._editions()
        return editions.web_at(editions.latest())

    def _traveller(self, name):
        travellers = self._travellers()
        if name not in travellers:
            raise UnknownName("no traveller in the house has this name")
        return travellers[name]

    def _crossings(self, name):
        """The ways and turns of the moves of the traveller."""
        told = self._traveller(name)
        return crossings(self._editions(), told.entry_office, told.names, told.moves, told.entry_edition)

    def _add(self, entry, editions, travellers):
        self.moments = self.moments + [(entry, editions, travellers)]

    def _add_traveller(self, entry, name, traveller):
        self._add(entry, self._editions(), {**self._travellers(), name: traveller})

    def enter(self, name, office, form):
        """Lets a form enter an office as a new traveller."""
        check_name(name)
        if name in self._travellers():
            raise DuplicateName("a traveller in the house has this name")
        self._web().office(office).check(form)
        kept = copy_form(form)
        traveller = Traveller(office, self._editions().latest(), (), "", kept, (), None)
        self._add_traveller(("enter", name, office, kept), name, traveller)

    def leave(self, name):
        """Removes a traveller."""
        self._traveller(name)
        others = {other: traveller for other, traveller in self._travellers().items() if other != name}
        self._add(("leave", name), self._editions(), others)

    def move(self, name, way):
        """Lets a traveller take a way."""
        traveller = self._traveller(name)
        web = self._web()
        start, _ = web.ends(way)
        if traveller.label is not None or traveller.office_in(web) != start:
            raise InvalidMove("the traveller is stopped or does not stand where the way starts")
        self._add_traveller(("move", name, way), name, traveller.taking(way, web.way(way)))

    def back(self, name):
        """Takes back the last way of a traveller, but no turns."""
        traveller = self._traveller(name)
        if not traveller.names:
            raise InvalidMove("the traveller has taken no way")
        found = traveller.before_last_way(self._crossings(name))
        editions = self._editions()
        turns = len(traveller.moves) - len(found.moves) - 1
        for edition in range(editions.latest() - turns, editions.latest()):
            found = found.turning(editions.turn(found.turning_office(self._web()), edition))
        self._add_traveller(("back", name), name, found)

    def change_kinds(self, office, kinds):
        """Makes a new edition in which the office has these kinds, and returns its number."""
        editions = self._editions().twin()
        edition = editions.change_kinds(office, kinds)
        self._turn_all(("kinds", office, tuple(kinds)), editions)
        return edition

    def change_steps(self, way, steps):
        """Makes a new edition in which the way has these steps, and returns its number."""
        editions = self._editions().twin()
        edition = editions.change_steps(way, steps)
        self._turn_all(("steps", way, tuple(steps)), editions)
        return edition

    def _turn_all(self, entry, editions):
        """Lets each traveller take its turn to the latest edition."""
        web = self._web()
        edition = editions.latest() - 1
        turned = {
            name: traveller.turning(editions.turn(traveller.turning_office(web), edition))
            for name, traveller in self._travellers().items()
        }
        self._add(entry, editions, turned)

    def do(self, entry):
        """Makes the call that the entry names."""
        if entry[0] == "enter":
            self.enter(entry[1], entry[2], entry[3])
        elif entry[0] == "leave":
            self.leave(entry[1])
        elif entry[0] == "move":
            self.move(entry[1], entry[2])
        elif entry[0] == "back":
            self.back(entry[1])
        elif entry[0] == "kinds":
            self.change_kinds(entry[1], entry[2])
        else:
            self.change_steps(entry[1], entry[2])

    def undo(self):
        """Takes back the last call that added an entry."""
        if len(self.moments) == 1:
            raise NothingToUndo("the journal has no entries")
        self.moments = self.moments[:-1]

    def trial(self):
        """An object for a `with` statement that takes the house back if an error leaves the block."""
        return Trial(self)

    def editions(self):
        """The editions of the house."""
        return self._editions().twin()

    def journal(self):
        """The entries in order."""
        return [_copied(moment[0]) for moment in self.moments[1:]]

    def traveller_names(self):
        """The names of the travellers in the house, in order of entry."""
        return tuple(self._travellers())

    def where(self, name):
        """The office where the traveller stands."""
        return self._traveller(name).office_in(self._web())

    def outcome(self, name):
        return self._traveller(name).outcome()

    def present_form(self, name):
        return copy_form(self._traveller(name).form)

    def history(self, name):
        """Where and in which edition the traveller entered, the names of its ways, and its moves."""
        traveller = self._traveller(name)
        return (traveller.entry_office, traveller.entry_edition, traveller.names, traveller.moves)

    def summary_of(self, name):
        """The summary of all crossings of the traveller."""
        taken = self._crossings(name)
        if taken:
            return road_summary(taken)
        traveller = self._traveller(name)
        return still(self._editions().web_at(traveller.entry_edition).office(traveller.entry_office))

    def entry_form(self, name):
        """The form that entered, brought back from the present form."""
        return self._traveller(name).form_before(0, self._crossings(name))

    def ask(self, name, query):
        """The answer about the form that entered, told from the present form."""
        traveller = self._traveller(name)
        if traveller.label is not None:
            raise Stopped(traveller.label)
        return answer_back(self.summary_of(name), query, traveller.form)


def _copied(entry):
    if entry[0] == "enter":
        return entry[:3] + (copy_form(entry[3]),)
    return entry
