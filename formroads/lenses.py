"""Which roads of a web are alike."""

from formroads.differing import difference
from formroads.errors import NotJoined
from formroads.joining import road_summary


def road_difference(web, first, second):
    """None, or a form for which two roads with the same ends have different outcomes."""
    first_ways = web.road(first)
    second_ways = web.road(second)
    if _ends_of(web, first) != _ends_of(web, second):
        raise NotJoined("the roads do not have the same first and last office")
    return difference(road_summary(first_ways), road_summary(second_ways))


def _ends_of(web, names):
    return (web.ends(names[0])[0], web.ends(names[-1])[1])


def lenses(web):
    """All pairs of roads that have nothing but their first and last office in common."""
    found = []
    for start in web.office_names():
        for end in web.office_names():
            roads = web.roads(start, end)
            for number, first in enumerate(roads):
                found.extend([(first, second) for second in roads[number + 1:] if _are_apart(web, first, second)])
    return found


def _are_apart(web, first, second):
    passed = _offices_between(web, second)
    return not any([office in passed for office in _offices_between(web, first)])


def _offices_between(web, names):
    """The offices of a road but the first and the last one."""
    return [web.ends(name)[1] for name in names[:-1]]


def disagreement(web):
    """None, or the first lens whose roads are not alike, and a form that shows it."""
    for first, second in lenses(web):
        form = road_difference(web, first, second)
        if form is not None:
            return (first, second, form)
    return None


def alike_roads(web, start, end):
    """The roads from one office to another, those that are alike in one list."""
    found = []
    for road in web.roads(start, end):
        alike = [roads for roads in found if road_difference(web, roads[0], road) is None]
        if alike:
            alike[0].append(road)
        else:
            found.append([road])
    return found
