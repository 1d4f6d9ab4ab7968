"""Kind books: the told kinds and what their values lead to."""

from formroads.errors import DuplicateName, InvalidKind, TooMany, UnknownName
from formroads.words import check_name

UNKNOWN = "?"


class Kindbook:
    """An ordered list of told kinds."""

    MOST = 5
    MOST_SIZE = 4

    def __init__(self, rows):
        if not rows:
            raise InvalidKind("a kind book has at least one kind")
        if len(rows) > self.MOST:
            raise TooMany("a kind book has at most 5 kinds")
        self._told = {}
        for name, size, parent, leads in rows:
            self._check_record(name, size, parent, leads)
            self._told[name] = (size, parent, tuple(leads))
        self.names = tuple([row[0] for row in rows])

    def _check_record(self, name, size, parent, leads):
        check_name(name)
        if name in self._told:
            raise DuplicateName("an earlier kind has this name")
        if not 1 <= size <= self.MOST_SIZE:
            raise InvalidKind("a kind has the size 1 to 4")
        if parent is None:
            if leads:
                raise InvalidKind("a root leads nowhere")
            return
        if parent not in self._told:
            raise UnknownName("no earlier kind has the name of the parent")
        if len(leads) != size:
            raise InvalidKind("each number of a kind has one lead")
        if not all([0 <= lead < self.size_of(parent) for lead in leads]):
            raise InvalidKind("a lead is a number of the parent")

    def __contains__(self, name):
        return name in self._told

    def __iter__(self):
        return iter(self.names)

    def checked(self, name):
        """The name, if it is that of a told kind."""
        if name not in self._told:
            raise UnknownName("the kind book has no such kind")
        return name

    def size_of(self, name):
        return self._told[self.checked(name)][0]

    def parent_of(self, name):
        """The parent of a told kind, or None for a root."""
        return self._told[self.checked(name)][1]

    def leads_of(self, name):
        return self._told[self.checked(name)][2]

    def chain_of(self, name):
        """The kind itself, its parent, the parent of the parent, up to a root."""
        chain = [self.checked(name)]
        parent = self.parent_of(name)
        while parent is not None:
            chain.append(parent)
            parent = self.parent_of(parent)
        return chain

    def members(self, kind):
        """The values of a told kind, or of all told kinds, in the order of the book."""
        names = self.names if kind == UNKNOWN else (self.checked(kind),)
        return [(name, number) for name in names for number in range(self.size_of(name))]

    def led(self, value, kind):
        """The value of the kind to which a value is led, or None if there is none."""
        name, number = value
        chain = self.chain_of(name)
        if kind == UNKNOWN:
            return (name, number)
        if self.checked(kind) not in chain:
            return None
        for step in chain[:chain.index(kind)]:
            number = self.leads_of(step)[number]
        return (kind, number)

    def below(self, lower, upper):
        """True if every member of the kind `lower` is led to the kind `upper`."""
        lower_names = self.names if lower == UNKNOWN else (self.checked(lower),)
        if upper == UNKNOWN:
            return True
        self.checked(upper)
        return all([upper in self.chain_of(name) for name in lower_names])

    def finer(self, first, second):
        """The one of two told kinds that is below the other, or None."""
        if self.checked(second) in self.chain_of(first):
            return first
        if first in self.chain_of(second):
            return second
        return None
