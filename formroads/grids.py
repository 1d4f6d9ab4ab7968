"""Routes: how forms go along a road while editions come, and which routes are alike."""

from formroads.differing import difference
from formroads.errors import InvalidMove
from formroads.joining import road_summary


def all_moves(*, ways, turns):
    """Yields all strings with so many `w` and so many `t`, in alphabetical order."""
    moves = "t" * turns + "w" * ways
    yield moves
    at = moves.rfind("tw")
    while at >= 0:
        # The next string changes as little as it can at the front, and is in order behind that.
        behind = moves[at + 2:]
        moves = moves[:at] + "w" + "t" * (behind.count("t") + 1) + "w" * behind.count("w")
        yield moves
        at = moves.rfind("tw")


def crossings(editions, office, names, moves, edition):
    """The ways and turns that a form takes by these moves, from the office and the edition on."""
    taken = []
    used = 0
    for move in moves:
        if move == "w" and used < len(names):
            web = editions.web_at(edition)
            taken.append(web.way(names[used]))
            office = web.ends(names[used])[1]
            used = used + 1
        elif move == "t":
            taken.append(editions.turn(office, edition))
            edition = edition + 1
        else:
            raise InvalidMove("a move is w before the last way or t before the latest edition")
    return taken


def route(editions, names, moves, edition):
    """The ways and turns of the road that are taken by the moves, from the edition on."""
    _check_road(editions, names)
    office = editions.web_at(edition).ends(names[0])[0]
    return crossings(editions, office, names, moves, edition)


def _check_road(editions, names):
    # All editions have the same ways between the same offices.
    editions.web_at(0).road(names)


def square_difference(editions, way, edition):
    """None, or a form for which the two routes of the square have different outcomes."""
    return _routes_difference(route(editions, (way,), "wt", edition), route(editions, (way,), "tw", edition))


def _routes_difference(first, second):
    # Routes of no move leave each form as it is.
    if not first:
        return None
    return difference(road_summary(first), road_summary(second))


def grid_difference(editions, names, edition):
    """None, or the first square of the road that is not alike, and a form that shows it."""
    _check_road(editions, names)
    editions.web_at(edition)
    for way in names:
        for number in range(edition, editions.latest()):
            form = square_difference(editions, way, number)
            if form is not None:
                return (way, number, form)
    return None


def squares_between(names, first, second, *, edition=0):
    """The squares between two strings of moves with the same ends."""
    _check_same_ends(first, second)
    first_turns = _turns_before_ways(first)
    second_turns = _turns_before_ways(second)
    if len(first_turns) > len(names):
        raise InvalidMove("there are more moves w than ways")
    return [
        (way, edition + number)
        for way, turns, other in zip(names, first_turns, second_turns)
        for number in range(min(turns, other), max(turns, other))
    ]


def _check_same_ends(first, second):
    for move in first + second:
        if move not in ("w", "t"):
            raise InvalidMove("a move is w or t")
    if sorted(first) != sorted(second):
        raise InvalidMove("the strings do not have the same ends")


def _turns_before_ways(moves):
    """For each `w` the number of `t` that come before it."""
    return [moves[:at].count("t") for at, move in enumerate(moves) if move == "w"]


def exchanges(first, second):
    """Strings of moves from the first to the second one, each of which exchanges two moves."""
    _check_same_ends(first, second)
    found = [first]
    for at, move in enumerate(second):
        # Bring the next move of this character forward, one place at a time.
        behind = found[-1].find(move, at)
        while behind > at:
            moves = found[-1]
            found.append(moves[:behind - 1] + moves[behind] + moves[behind - 1] + moves[behind + 1:])
            behind = behind - 1
    return found


def route_difference(editions, names, first, second, *, edition=0):
    """None, or a form for which two routes with the same ends have different outcomes."""
    first_route = route(editions, names, first, edition)
    second_route = route(editions, names, second, edition)
    _check_same_ends(first, second)
    return _routes_difference(first_route, second_route)
