"""Places and links: between which columns values go."""

from formroads.borders import check_kinds
from formroads.errors import DuplicateName, UnknownName


class Places:
    """Rows of places with kinds, and links between the places."""

    def __init__(self, book, rows, links=()):
        self.book = book
        self.rows = tuple([(place, kind) for place, kind in rows])
        self._kinds = {place: kind for place, kind in self.rows}
        if len(self._kinds) < len(self.rows):
            raise DuplicateName("two rows have the same place")
        check_kinds(book, [kind for _, kind in self.rows])
        for first, second in links:
            self.kind_of(first)
            self.kind_of(second)
        # The keys of a dict keep their order, and a link that is there already is not added again.
        linked = {(first, second): True for first, second in links}
        self.links = tuple(linked)

    def kind_of(self, place):
        """The kind of the place, told or unknown."""
        if place not in self._kinds:
            raise UnknownName("no row has this place")
        return self._kinds[place]

    def reached_from(self, place):
        """The places that the place reaches, breadth first."""
        return list(self._places_before(place))

    def walk(self, first, second):
        """A walk with as few links as possible, or None."""
        before = self._places_before(first)
        self.kind_of(second)
        if second not in before:
            return None
        backwards = [second, before[second]]
        while backwards[-1] != first:
            backwards.append(before[backwards[-1]])
        return backwards[::-1]

    def _places_before(self, place):
        """For each place that is reached, in breadth first order, the place from which it is reached first."""
        self.kind_of(place)
        before = {}
        waiting = [place]
        while waiting:
            here = waiting.pop(0)
            for first, second in self.links:
                if first == here and second not in before:
                    before[second] = here
                    waiting.append(second)
        return before
