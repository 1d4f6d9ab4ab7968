"""Sound tables of kinds, and the completion: the least told of them."""

from formroads.errors import Conflict, TooMany
from formroads.kinds import UNKNOWN

MOST_UNKNOWN = 4


def completion(places):
    """The completion, a dict with a kind for each place."""
    table = {}
    for place, kind in places.rows:
        told = _told_reached(places, place)
        _check_conflict(places, place, told)
        table[place] = kind if kind != UNKNOWN else _finest(places.book, [places.kind_of(other) for other in told])
    return table


def _told_reached(places, place):
    """The told places that the place reaches, in the order of `reached_from`."""
    return [other for other in places.reached_from(place) if places.kind_of(other) != UNKNOWN]


def _check_conflict(places, place, told):
    kind = places.kind_of(place)
    for number, first in enumerate(told):
        if kind != UNKNOWN:
            if not places.book.below(kind, places.kind_of(first)):
                raise Conflict((places.walk(place, first),))
        else:
            for second in told[number + 1:]:
                if places.book.finer(places.kind_of(first), places.kind_of(second)) is None:
                    raise Conflict((places.walk(place, first), places.walk(place, second)))


def _finest(book, kinds):
    """The kind of an unknown place that reaches these told kinds, of which any two are comparable."""
    finest = UNKNOWN
    for kind in kinds:
        if not book.below(finest, kind):
            finest = kind
    return finest


def is_sound(places, table):
    """True if told places keep their kinds and no link leads to a kind that could stop a value."""
    for place, kind in places.rows:
        if kind not in (UNKNOWN, table[place]):
            return False
    return all([places.book.below(table[first], table[second]) for first, second in places.links])


def as_told(places, table, other):
    """True if the table is at least as told as the other one."""
    return all([_kind_as_told(places.book, table[place], other[place]) for place, _ in places.rows])


def _kind_as_told(book, kind, other):
    if other == UNKNOWN:
        return True
    return kind != UNKNOWN and book.below(kind, other)


def sound_tables(places, *, most=None):
    """Yields the sound tables in lexicographic order of their kinds."""
    unknown = [place for place, kind in places.rows if kind == UNKNOWN]
    if len(unknown) > MOST_UNKNOWN:
        raise TooMany("too many places are unknown")
    found = 0
    for kinds in _possible_kinds(places):
        if most is not None and found >= most:
            return
        table = {place: kind for (place, _), kind in zip(places.rows, kinds)}
        if is_sound(places, table):
            found = found + 1
            yield table


def _possible_kinds(places):
    """All lists of kinds, in the order of the rows, in which told places have their own kinds."""
    found = [()]
    for _, kind in places.rows:
        choices = (UNKNOWN,) + places.book.names if kind == UNKNOWN else (kind,)
        found = [kinds + (choice,) for kinds in found for choice in choices]
    return found
