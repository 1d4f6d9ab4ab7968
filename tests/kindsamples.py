"""Kind books for several tests, and what DOC.md says of kinds in the plainest words.

The functions that begin with `plain_` work on the records of a kind book and use nothing of the program.
"""

import itertools

from formroads.kinds import Kindbook
from tests.samples import RECORDS, plain_rows

CHAIN = [("year", 1, None, ()), ("half", 2, "year", (0, 0)), ("term", 3, "half", (0, 1, 1))]
TREE = [
    ("root", 2, None, ()), ("left", 2, "root", (1, 0)), ("right", 2, "root", (1, 1)), ("leaf", 2, "left", (0, 0)),
]
ALL_RECORDS = [RECORDS, CHAIN, TREE, [("bit", 2, None, ())], [("one", 1, None, ()), ("two", 2, None, ())]]


def kinds_of(records):
    """All kinds over the records, the unknown one first."""
    return ["?"] + [record[0] for record in records]


def all_books():
    """Several kind books, each with its records."""
    return [(records, Kindbook(records)) for records in ALL_RECORDS]


def plain_led(records, value, kind):
    """The value led to the kind by the words of point 6, or None."""
    told = {record[0]: record for record in records}
    name, number = value
    if kind == "?":
        return value
    while name != kind:
        _, _, parent, leads = told[name]
        if parent is None:
            return None
        name, number = parent, leads[number]
    return (name, number)


def plain_members(records, kind):
    """The members of the kind by the words of point 7."""
    return [(name, number) for name, size, _, _ in records for number in range(size) if kind in ("?", name)]


def plain_below(records, lower, upper):
    """Whether every member of the first kind is led to the second one."""
    return all(plain_led(records, value, upper) is not None for value in plain_members(records, lower))


def plain_allowed(records, kind, target):
    """Whether some member of the kind passes a border into the target, which is what point 49 comes to."""
    return any(plain_led(records, value, target) is not None for value in plain_members(records, kind))


def all_sequences(records, borders):
    """All sequences of kinds that cross so many borders."""
    return itertools.product(kinds_of(records), repeat=borders + 1)


def allowed_sequence(records, kinds):
    """Whether each border of the sequence is allowed."""
    return all(plain_allowed(records, kind, target) for kind, target in zip(kinds, kinds[1:]))


def plain_walk(records, kinds, value):
    """The values behind the borders that the value passes one by one, and the stage at which it stops, or 0."""
    behind = []
    for stage, target in enumerate(kinds[1:], start=1):
        value = plain_led(records, value, target)
        if value is None:
            return behind, stage
        behind.append(value)
    return behind, 0


def plain_cross(records, form, shape, targets, level=0):
    """The form behind a border by the words of point 50, or None if a value stops."""
    table = []
    for cells, inner in form:
        led = tuple(plain_led(records, value, targets[column]) for column, value in zip(shape[level], cells))
        led_inner = plain_cross(records, inner, shape, targets, level + 1)
        if None in led or led_inner is None:
            return None
        table.append((led, led_inner))
    return table


def values_of(form):
    """All values of a form, in the order of the rows and of their columns."""
    return [value for _, cells in plain_rows(form) for value in cells]
