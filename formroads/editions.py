"""Editions: a web that changes while forms are under way."""

from formroads.errors import InvalidMove
from formroads.keeping import keeping_way
from formroads.ways import Way


class Editions:
    """The webs of all editions, from edition 0 on."""

    def __init__(self, web):
        self._webs = [web]

    def latest(self):
        """The number of the latest edition."""
        return len(self._webs) - 1

    def web_at(self, edition):
        if not 0 <= edition <= self.latest():
            raise InvalidMove("the edition does not exist")
        return self._webs[edition]

    def change_kinds(self, office, kinds):
        """Makes a new edition in which the office has these kinds, and returns its number."""
        web = self._webs[-1]
        changed = web.with_kinds(office, kinds)
        # Forms that stay at the office cross the turn, which needs a border and must lose no rule.
        keeping_way(office, office, web.office(office), changed.office(office), ())
        return self._add(changed)

    def change_steps(self, way, steps):
        """Makes a new edition in which the way has these steps, and returns its number."""
        return self._add(self._webs[-1].with_steps(way, steps))

    def _add(self, web):
        self._webs.append(web)
        return self.latest()

    def turn(self, office, edition):
        """The way that forms at the office take from the edition to the next one."""
        self._webs[0].office(office)
        start = self.web_at(edition).office(office)
        return Way(office, office, start, self.web_at(edition + 1).office(office))

    def twin(self):
        """A new object with the same editions."""
        other = Editions(self._webs[0])
        other._webs = list(self._webs)
        return other
