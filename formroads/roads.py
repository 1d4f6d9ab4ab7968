"""Roads: several ways, one behind the other."""

from formroads.errors import NotJoined, Stopped


def check_road(ways):
    """Checks that each way but the first starts where the way before it ends."""
    if not ways:
        raise NotJoined("a road has at least one way")
    for way, following in zip(ways, ways[1:]):
        if not following.start.same(way.end):
            raise NotJoined("a way does not start where the way before it ends")


def run_road(ways, form):
    """The outcome of the road for the form."""
    check_road(ways)
    return _outcome([(part, way) for way in ways for part in ("border", "steps")], form)


def run_early(ways, form):
    """The outcome if the borders of all ways come before the steps of all ways."""
    check_road(ways)
    return _outcome([(part, way) for part in ("border", "steps") for way in ways], form)


def run_late(ways, form):
    """The outcome if the steps of all ways come before the borders of all ways."""
    check_road(ways)
    return _outcome([(part, way) for part in ("steps", "border") for way in ways], form)


def _outcome(parts, form):
    """The outcome of these parts of ways, one after the other."""
    shape = parts[0][1].start.shape
    try:
        for part, way in parts:
            if part == "border":
                form = way.cross(form, shape)
            else:
                form = way.take_steps(form)
                shape = way.end.shape
    except Stopped as stop:
        return ("stopped", stop.label)
    return ("through", form)
