"""Travellers: forms under way, and how they cross ways and turns."""

from formroads.errors import Stopped
from formroads.forms import copy_form
from formroads.waynotes import bring_back_road, way_note


class Traveller:
    """A form under way; it never changes.

    It has the office and the edition in which it entered, the names of its ways, its moves, its present form, the
    notes of the crossings that it has passed, and the label of the crossing that stopped it or None.
    """

    def __init__(self, entry_office, entry_edition, names, moves, form, notes, label):
        self.entry_office = entry_office
        self.entry_edition = entry_edition
        self.names = names
        self.moves = moves
        self.form = form
        self.notes = notes
        self.label = label

    def taking(self, name, way):
        """The traveller behind one more way."""
        return self._crossing(self.names + (name,), self.moves + "w", way)

    def turning(self, turn):
        """The traveller behind one more turn."""
        return self._crossing(self.names, self.moves + "t", turn)

    def _crossing(self, names, moves, way):
        form, notes, label = self.form, self.notes, self.label
        if label is None:
            try:
                note = way_note(way, form)
                form = way.send(form)
                notes = notes + (note,)
            except Stopped as stop:
                label = stop.label
        return Traveller(self.entry_office, self.entry_edition, names, moves, form, notes, label)

    def before_last_way(self, crossings):
        """The traveller as it was before its last way; the crossings are those of its moves."""
        at = self.moves.rfind("w")
        return Traveller(
            self.entry_office, self.entry_edition, self.names[:-1], self.moves[:at],
            self.form_before(at, crossings), self.notes[:at], None,
        )

    def form_before(self, at, crossings):
        """The form as it was before the crossing with this number, brought back from the present form."""
        passed = len(self.notes)
        if at >= passed:
            return copy_form(self.form)
        return bring_back_road(crossings[at:passed], self.form, self.notes[at:])

    def office_in(self, web):
        """The office where the traveller stands: the end of the last way that it has passed."""
        passed = self.moves[:len(self.notes)].count("w")
        return web.ends(self.names[passed - 1])[1] if passed > 0 else self.entry_office

    def turning_office(self, web):
        """The office whose turns the traveller takes: the end of its last way, passed or not."""
        return web.ends(self.names[-1])[1] if self.names else self.entry_office

    def outcome(self):
        """The outcome of the traveller."""
        if self.label is not None:
            return ("stopped", self.label)
        return ("through", copy_form(self.form))
