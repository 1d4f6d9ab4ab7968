"""Editions for several tests, and what DOC.md says of routes in the plainest words."""

from formroads.editions import Editions
from formroads.errors import Clash, RuleLost
from tests.roadsamples import forms_of, plain_road, sample_schema
from tests.websamples import some_kinds, some_steps, some_web

DAYS = [("day", number) for number in range(3)]
SIZES = [("size", 0), ("size", 1)]
NEST = [("nest", 0, (1,))]


def some_editions(chance, records, count, offices, ways, changes):
    """Editions of a web by chance, with so many changes tried."""
    editions = Editions(some_web(chance, records, count, offices, ways))
    for _ in range(changes):
        change_somehow(chance, records, editions)
    return editions


def change_somehow(chance, records, editions):
    """Tries a change by chance; what can be changed has `change_kinds` and `change_steps`."""
    web = latest_web(editions)
    try:
        if web.way_names() and chance.random() < 0.3:
            way = web.way(chance.choice(web.way_names()))
            editions.change_steps(way.name, some_steps(chance, way.start.shape, way.end.shape))
        else:
            office = chance.choice(web.office_names())
            editions.change_kinds(office, some_kinds(chance, records, web, office))
    except (Clash, RuleLost):
        pass


def latest_web(thing):
    """The latest web of editions or of a house."""
    editions = thing if isinstance(thing, Editions) else thing.editions()
    return editions.web_at(editions.latest())


def plain_turn(editions, office, edition):
    """What a turn is, by the words of point 104: its name, its label, its two schemas and its steps."""
    return (
        office, office, editions.web_at(edition).office(office), editions.web_at(edition + 1).office(office), ())


def plain_route(editions, names, moves, edition, office=None):
    """The ways and turns of a route by the words of point 106, each as name, label, schemas and steps."""
    if office is None:
        office = editions.web_at(0).ends(names[0])[0]
    taken = []
    names = list(names)
    for move in moves:
        if move == "w":
            web, name = editions.web_at(edition), names.pop(0)
            way = web.way(name)
            taken.append((way.name, way.label, way.start, way.end, way.steps))
            office = web.ends(name)[1]
        else:
            taken.append(plain_turn(editions, office, edition))
            edition += 1
    return taken


def facts_of(way):
    return (way.name, way.label, way.start, way.end, way.steps)


def same_ways(one, other):
    """Whether two lists of ways, told by their facts, are the same."""
    return len(one) == len(other) and all(
        first[:2] == second[:2] and first[4] == second[4] and first[2].same(second[2]) and first[3].same(second[3])
        for first, second in zip(one, other))


def difference_of(records, first, second, most):
    """Whether two roads have different outcomes for some small form that fits their start schema."""
    start = first[0].start
    for form in forms_of(records, start, most):
        if start.fits(form) and plain_road(records, first, form) != plain_road(records, second, form):
            return True
    return False


def day_offices():
    """Two offices of two columns, flat and deep."""
    flat = sample_schema(((0, 1),), ("day", "?"))
    deep = sample_schema(((0,), (1,)), ("month", "?"))
    return flat, deep
