"""How far a change of an edition reaches."""

from formroads.completing import completion
from formroads.filledwebs import places_of
from formroads.grids import square_difference


def reach(editions, edition):
    """The offices and the ways that the change changed, and the ways whose square is not alike."""
    before = editions.web_at(edition - 1)
    web = editions.web_at(edition)
    offices = [name for name in web.office_names() if not web.office(name).same(before.office(name))]
    ways = [name for name in web.way_names() if _is_changed(before.way(name), web.way(name))]
    squares = [name for name in web.way_names() if square_difference(editions, name, edition - 1) is not None]
    return (tuple(offices), tuple(ways), tuple(squares))


def _is_changed(before, way):
    return not (before.start.same(way.start) and before.end.same(way.end) and before.steps == way.steps)


def moved_places(editions, edition):
    """The places whose completed kinds the change changed."""
    before = editions.web_at(edition - 1)
    web = editions.web_at(edition)
    table = completion(places_of(before))
    changed = completion(places_of(web))
    return [place for place in table if table[place] != changed[place]]
