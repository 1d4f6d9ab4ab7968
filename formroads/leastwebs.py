"""The ways that a web does not need."""

from formroads.lenses import road_difference


def needless(web):
    """The names of the ways that are alike to a longer road or to a way that entered earlier."""
    return tuple([name for name in web.way_names() if _is_needless(web, name)])


def _is_needless(web, name):
    names = web.way_names()
    earlier = names[:names.index(name)]
    start, end = web.ends(name)
    others = [road for road in web.roads(start, end) if len(road) > 1 or road[0] in earlier]
    return any([road_difference(web, (name,), road) is None for road in others])


def least(web):
    """The web without the ways that it does not need."""
    return web.without_ways(needless(web))


def stand_in(web, name):
    """The shortest road of the least web that is alike to the way."""
    start, end = web.ends(name)
    return _first_alike(web, name, least(web).roads(start, end))


def _first_alike(web, name, roads):
    """The first of the shortest ones of the roads that are alike to the way."""
    return min([road for road in roads if road_difference(web, (name,), road) is None], key=len)


def lean_road(web, names):
    """The road that consists of the stand-ins of the ways of a road."""
    web.road(names)
    lean = least(web)
    found = []
    for name in names:
        start, end = web.ends(name)
        found.extend(_first_alike(web, name, lean.roads(start, end)))
    return tuple(found)
