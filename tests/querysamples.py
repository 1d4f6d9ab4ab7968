"""Queries for several tests, and what DOC.md says of their answers in the plainest words."""

from tests.kindsamples import kinds_of, plain_below, plain_led
from tests.samples import all_subsets


def plain_fits(records, schema, query):
    """Whether the query fits the schema, by the words of point 96."""
    word, groups = query[0], query[-1]
    last = len(schema.shape) - 1
    level = query[1] if word == "rows" else last
    if word not in ("rows", "most") or not 0 <= level <= last:
        return False
    columns = [column for column, _ in groups]
    if any(one >= other for one, other in zip(columns, columns[1:])):
        return False
    reached = [column for columns_of_level in schema.shape[:level + 1] for column in columns_of_level]
    told = [name for name, *_ in records]
    named = [(column, kind, told + ["?"]) for column, kind in groups]
    if word == "most":
        named.append((query[1], query[2], told))
    return all(
        column in reached and kind in kinds and plain_below(records, schema.kinds[column], kind)
        for column, kind, kinds in named
    )


def all_queries(records, schema):
    """All queries that fit the schema."""
    kinds = {
        column: [kind for kind in kinds_of(records) if plain_below(records, schema.kinds[column], kind)]
        for column in range(len(schema.kinds))
    }
    found = []
    for level in range(len(schema.shape)):
        for groups in all_groups(kinds, sorted(sum(schema.shape[:level + 1], ()))):
            found.append(("rows", level, groups))
    for column in kinds:
        for kind in kinds[column]:
            if kind != "?":
                found += [("most", column, kind, groups) for groups in all_groups(kinds, sorted(kinds))]
    return found


def all_groups(kinds, columns):
    found = []
    for chosen in all_subsets(columns):
        lists = [()]
        for column in chosen:
            lists = [groups + ((column, kind),) for groups in lists for kind in kinds[column]]
        found += lists
    return found


def plain_counted(schema, query, form, level=0, above=None):
    """The counted rows of a form, each as a dict of the values by column of the row and the rows above it."""
    counted = len(schema.shape) - 1 if query[0] == "most" else query[1]
    found = []
    for cells, inner in form:
        values = {**(above or {}), **dict(zip(schema.shape[level], cells))}
        if level == counted:
            found.append(values)
        else:
            found += plain_counted(schema, query, inner, level + 1, values)
    return found


def plain_answer(records, schema, query, form):
    """The answer by the words of point 97."""
    rows = {}
    for values in plain_counted(schema, query, form):
        key = tuple(plain_led(records, values[column], kind) for column, kind in query[-1])
        rows.setdefault(key, []).append(values)
    answer = []
    for key in sorted(rows):
        if query[0] == "rows":
            answer.append((key, len(rows[key])))
        else:
            numbers = [plain_led(records, values[query[1]], query[2])[1] for values in rows[key]]
            answer.append((key, max(numbers)))
    return answer
