"""Webs for several tests, and what DOC.md says of their roads in the plainest words."""

from formroads.errors import Clash, RuleLost
from formroads.regroupings import Regrouping
from formroads.rules import Rules
from formroads.schemas import Schema
from formroads.scripts import short_script
from formroads.webs import Web
from tests.roadsamples import forms_of, plain_road, sample_schema, some_schema, some_targets
from tests.samples import all_rules, all_shapes, plain_depths

NAMES = "abcdefghi"


def sample_web():
    """Two offices and one way, as in the last example of DOC.md."""
    flat = sample_schema(((0, 1),), ("day", "?"))
    deep = sample_schema(((0,), (1,)), ("month", "size"))
    return Web.of(flat.book, [("home", flat), ("town", deep)], [("go", "gate", "home", "town", [("nest", 0, (1,))])])


def some_steps(chance, before, after):
    """Steps that lead from one shape to another, with or without a detour."""
    regroupings = [Regrouping(before, after, depths) for depths in plain_depths(before, after)]
    steps = short_script(chance.choice(regroupings))
    level = chance.randrange(len(after))
    if chance.random() < 0.2 and len(after[level]) > 1:
        steps = steps + [("nest", level, after[level][:1]), ("unnest", level)]
    return steps


def some_web(chance, records, count, offices, ways, ruled=True):
    """A web with so many offices, and at most so many ways, by chance."""
    web = Web(some_schema(chance, records, count).book)
    for name in NAMES[:offices]:
        web = web.with_office(name, some_office(chance, records, web, count, ruled))
    tries = [(chance.randrange(offices), chance.randrange(offices)) for _ in range(3 * ways)]
    pairs = [(NAMES[first], NAMES[second]) for first, second in tries if first < second]
    for name, (start, end) in zip(NAMES, pairs[:ways]):
        web = with_some_way(chance, web, name, start, end)
    return web


def some_office(chance, records, web, count, ruled):
    """A schema whose kinds suit those of an earlier office, if there is one."""
    schema = some_schema(chance, records, count)
    if web.office_names():
        before = web.office(chance.choice(web.office_names()))
        schema = schema.with_kinds(some_targets(chance, records, before.kinds))
        if chance.random() < 0.5:
            return before.with_kinds(schema.kinds).with_rules(Rules())
    if ruled and chance.random() < 0.3:
        schema = schema.with_rules(chance.choice(list(all_rules(schema.shape))))
    return schema


def with_some_way(chance, web, name, start, end):
    """The web with a way by chance, or the same web if the way cannot be made."""
    steps = some_steps(chance, web.office(start).shape, web.office(end).shape)
    try:
        return web.with_way(name, chance.choice(("red", "red", "blue")), start, end, steps)
    except (Clash, RuleLost):
        return web


def some_kinds(chance, records, web, office):
    """New kinds of the office, most of which suit what is there."""
    if chance.random() < 0.5:
        return some_targets(chance, records, web.office(office).kinds)
    return [chance.choice(("?", kind, records[0][0])) for kind in web.office(office).kinds]


def plain_roads(web, most=9):
    """All roads of at most so many ways, in the order of the ways: longer and longer ones, sorted at last."""
    names = web.way_names()
    ends = {name: web.ends(name) for name in names}
    found, longest = [], [(name,) for name in names]
    for _ in range(most):
        found += longest
        longest = [road + (name,) for road in longest for name in names if ends[road[-1]][1] == ends[name][0]]
    return sorted(found, key=lambda road: [names.index(name) for name in road])


def plain_ends(web, road):
    """The first and the last office of a road."""
    return (web.ends(road[0])[0], web.ends(road[-1])[1])


class Outcomes:
    """The outcomes of roads of a web for all small forms that fit the schemas where they begin."""

    def __init__(self, records, web, most):
        self.records = records
        self.web = web
        self.most = most
        self.forms = {}
        self.told = {}

    def forms_at(self, office):
        if office not in self.forms:
            schema = self.web.office(office)
            self.forms[office] = [form for form in forms_of(self.records, schema, self.most) if schema.fits(form)]
        return self.forms[office]

    def of(self, road):
        if road not in self.told:
            ways = [self.web.way(name) for name in road]
            office = self.web.ends(road[0])[0]
            self.told[road] = [plain_road(self.records, ways, form) for form in self.forms_at(office)]
        return self.told[road]

    def alike(self, first, second):
        return self.of(first) == self.of(second)


def shapes_and_kinds(count, kinds):
    """All schemas over the sample book with these kinds."""
    return [sample_schema(shape, kinds) for shape in all_shapes(count)]


def same_schema(first, second):
    """Whether two schemas say the same, in the words of point 18."""
    return isinstance(first, Schema) and (first.shape, first.kinds, first.rules.named()) == (
        second.shape, second.kinds, second.rules.named())
