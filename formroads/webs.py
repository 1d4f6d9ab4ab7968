"""Webs: offices, and ways between them."""

from formroads.errors import DuplicateName, NotForward, NotJoined, TooMany, UnknownName
from formroads.keeping import keeping_way
from formroads.words import check_name


class Web:
    """Offices and ways in the order in which they entered; a web never changes."""

    MOST_OFFICES = 6
    MOST_WAYS = 9

    def __init__(self, book):
        self.book = book
        self._offices = {}
        # By name of a way: the way itself, and the names of the offices where it starts and ends.
        self._ways = {}
        self._ends = {}

    @staticmethod
    def of(book, offices, ways):
        """The web into which the offices and then the ways entered in order."""
        web = Web(book)
        for name, schema in offices:
            web = web.with_office(name, schema)
        for name, label, start, end, steps in ways:
            web = web.with_way(name, label, start, end, steps)
        return web

    def _changed(self, offices, ways, ends):
        web = Web(self.book)
        web._offices = offices
        web._ways = ways
        web._ends = ends
        return web

    def office_names(self):
        return tuple(self._offices)

    def way_names(self):
        return tuple(self._ways)

    def office(self, name):
        """The schema of the office."""
        if name not in self._offices:
            raise UnknownName("the web has no such office")
        return self._offices[name]

    def way(self, name):
        if name not in self._ways:
            raise UnknownName("the web has no such way")
        return self._ways[name]

    def ends(self, name):
        """The names of the offices where the way starts and ends."""
        self.way(name)
        return self._ends[name]

    def with_office(self, name, schema):
        """The web with one more office."""
        check_name(name)
        if name in self._offices:
            raise DuplicateName("an office has this name")
        if len(self._offices) >= self.MOST_OFFICES:
            raise TooMany("a web has at most 6 offices")
        return self._changed({**self._offices, name: schema}, self._ways, self._ends)

    def with_way(self, name, label, start, end, steps):
        """The web with one more way."""
        check_name(name)
        check_name(label)
        if name in self._ways:
            raise DuplicateName("a way has this name")
        start_schema = self.office(start)
        end_schema = self.office(end)
        offices = list(self._offices)
        if offices.index(end) <= offices.index(start):
            raise NotForward("a way leads to an office that entered later")
        if len(self._ways) >= self.MOST_WAYS:
            raise TooMany("a web has at most 9 ways")
        way = keeping_way(name, label, start_schema, end_schema, steps)
        return self._changed(self._offices, {**self._ways, name: way}, {**self._ends, name: (start, end)})

    def without_ways(self, names):
        """The web without these ways."""
        for name in names:
            self.way(name)
        ways = {name: way for name, way in self._ways.items() if name not in names}
        return self._changed(self._offices, ways, {name: self._ends[name] for name in ways})

    def with_kinds(self, office, kinds):
        """The web in which the office has these kinds."""
        offices = {**self._offices, office: self.office(office).with_kinds(kinds)}
        ways = {}
        for name, way in self._ways.items():
            start, end = self._ends[name]
            if office in (start, end):
                way = keeping_way(name, way.label, offices[start], offices[end], way.steps)
            ways[name] = way
        return self._changed(offices, ways, self._ends)

    def with_steps(self, way, steps):
        """The web in which the way has these steps."""
        old = self.way(way)
        new = keeping_way(way, old.label, old.start, old.end, steps)
        return self._changed(self._offices, {**self._ways, way: new}, self._ends)

    def roads(self, start, end, *, most=9):
        """All roads of at most `most` ways from one office to another, in the order of their ways."""
        self.office(start)
        self.office(end)
        return self._roads_from(start, end, most)

    def _roads_from(self, start, end, most):
        found = []
        if most > 0:
            for name, (first, last) in self._ends.items():
                if first == start and last == end:
                    found.append((name,))
                elif first == start:
                    found.extend([(name,) + rest for rest in self._roads_from(last, end, most - 1)])
        return found

    def road(self, names):
        """The ways with these names, which are a road."""
        ways = [self.way(name) for name in names]
        if not ways:
            raise NotJoined("a road has at least one way")
        for name, following in zip(names, names[1:]):
            if self.ends(name)[1] != self.ends(following)[0]:
                raise NotJoined("a way does not start at the office where the way before it ends")
        return ways
