"""Queries about the rows of a form, and their answers."""

from formroads.errors import InvalidQuery
from formroads.forms import rows_of
from formroads.kinds import UNKNOWN
from formroads.shapes import above, path_values


def check_query(schema, query):
    """Checks that the query fits the schema."""
    if query[0] not in ("rows", "most"):
        raise InvalidQuery("a query asks for rows or for the most")
    level = counted_level(schema, query)
    if not 0 <= level <= schema.last:
        raise InvalidQuery("the shape does not have the level")
    columns = [column for column, _ in query[-1]]
    if columns != sorted(set(columns)):
        raise InvalidQuery("the columns of groups are in ascending order, and each stands there once")
    if query[0] == "most" and query[2] == UNKNOWN:
        raise InvalidQuery("only the numbers of a told kind are compared")
    for column, kind in named_kinds(query):
        if column not in above(schema.shape, level + 1):
            raise InvalidQuery("a counted row has no value in the column")
        if kind != UNKNOWN and kind not in schema.book:
            raise InvalidQuery("the kind book has no such kind")
        if not schema.book.below(schema.kinds[column], kind):
            raise InvalidQuery("the kind of the column is not below the kind of the query")


def counted_level(schema, query):
    """The level of the counted rows."""
    return query[1] if query[0] == "rows" else schema.last


def named_kinds(query):
    """All columns of the query, each with the kind that the query names with it."""
    if query[0] == "rows":
        return list(query[-1])
    return list(query[-1]) + [(query[1], query[2])]


def answer(schema, query, form):
    """The answer about a form with the shape and the kinds of the schema."""
    check_query(schema, query)
    level = counted_level(schema, query)
    counted = []
    path = ()
    for depth, cells in rows_of(form):
        path = path[:depth] + (cells,)
        if depth == level:
            counted.append(counted_pair(schema.book, query, path_values(schema.shape, path)))
    return gathered(query, counted)


def counted_pair(book, query, values):
    """The key of a counted row with these values by column, and its number."""
    key = tuple([book.led(values[column], kind) for column, kind in query[-1]])
    if query[0] == "rows":
        return (key, 1)
    _, number = book.led(values[query[1]], query[2])
    return (key, number)


def gathered(query, pairs):
    """The answer in which the numbers of equal keys are put together."""
    found = {}
    for key, number in pairs:
        if key not in found:
            found[key] = number
        elif query[0] == "rows":
            found[key] = found[key] + number
        else:
            found[key] = max(found[key], number)
    return [(key, found[key]) for key in sorted(found)]


def add_answers(query, *answers):
    """The answer about the forms of all these answers, one behind the other."""
    return gathered(query, [pair for rows in answers for pair in rows])


def is_coarser(schema, query, other):
    """True if `other` is coarser than `query`."""
    check_query(schema, query)
    check_query(schema, other)
    if query[:-1] != other[:-1]:
        return False
    kinds = {column: kind for column, kind in query[-1]}
    return all([
        column in kinds and _is_coarser_kind(schema, column, kinds[column], kind)
        for column, kind in other[-1]
    ])


def _is_coarser_kind(schema, column, kind, other):
    """True if the values of the column that are led to `kind` tell what they become when led to `other`."""
    if kind == UNKNOWN:
        return True
    if other == UNKNOWN:
        return kind == schema.kinds[column]
    return schema.book.below(kind, other)


def coarse_answer(schema, query, other, rows):
    """The answer to the coarser query `other`, from the answer to the query."""
    if not is_coarser(schema, query, other):
        raise InvalidQuery("the second query is not coarser than the first one")
    columns = [column for column, _ in query[-1]]
    pairs = []
    for key, number in rows:
        led = [schema.book.led(key[columns.index(column)], kind) for column, kind in other[-1]]
        pairs.append((tuple(led), number))
    return gathered(other, pairs)
