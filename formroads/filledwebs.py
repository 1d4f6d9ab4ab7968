"""Webs whose unknown kinds are completed."""

from formroads.completing import completion
from formroads.places import Places
from formroads.rules import Rules
from formroads.schemas import Schema
from formroads.webs import Web


def places_of(web):
    """The places of the web: each column of each office, linked by the ways."""
    rows = [
        ((name, column), kind)
        for name in web.office_names()
        for column, kind in enumerate(web.office(name).kinds)
    ]
    links = []
    for name in web.way_names():
        start, end = web.ends(name)
        links.extend([((start, column), (end, column)) for column in range(len(web.office(start).kinds))])
    return Places(web.book, rows, links)


def filled(web):
    """The web with the completed kinds and without rules."""
    table = completion(places_of(web))
    offices = [(name, _filled_schema(web, name, table)) for name in web.office_names()]
    ways = []
    for name in web.way_names():
        way = web.way(name)
        start, end = web.ends(name)
        ways.append((name, way.label, start, end, way.steps))
    return Web.of(web.book, offices, ways)


def _filled_schema(web, name, table):
    schema = web.office(name)
    kinds = [table[(name, column)] for column in range(len(schema.kinds))]
    return Schema(web.book, schema.shape, kinds, Rules())
