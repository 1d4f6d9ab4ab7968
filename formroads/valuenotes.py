"""Notes of borders: which of the forms with one result a form is."""

from formroads.borders import check_targets, cross_form
from formroads.errors import InvalidForm, Stopped, Unreached
from formroads.forms import form_of_rows, rows_of
from formroads.leafpairs import leaf_form
from formroads.notecodes import chosen_by, note_of, sizes_of
from formroads.rules import Rules
from formroads.schemas import Schema


def sources(book, kind, target, value):
    """The members of the kind that a border into the target leads to the value."""
    return [member for member in book.members(kind) if book.led(member, target) == value]


def value_note(schema, targets, form):
    """The value note of a form."""
    check_targets(schema, targets)
    schema.with_rules(Rules()).check(form)
    try:
        result = cross_form(schema.book, form, schema.shape, targets, None)
    except Stopped:
        raise InvalidForm("a value of the form stops") from None
    return note_of(_source_lists(schema, targets, result), [value for _, cells in rows_of(form) for value in cells])


def restore_values(schema, targets, result, note):
    """The form that is led to this result and has this value note."""
    values = chosen_by(_told_sources(schema, targets, result), note)
    rows = []
    used = 0
    for level, cells in rows_of(result):
        rows.append((level, tuple(values[used:used + len(cells)])))
        used = used + len(cells)
    return form_of_rows(rows)


def value_count(schema, targets, result):
    """The number of the forms that are led to this result."""
    _check_result(schema, targets, result)
    count = 1
    for found in _source_lists(schema, targets, result):
        count = count * len(found)
    return count


def value_sizes(schema, targets, result):
    """The sizes of the sources of all values of the result."""
    return sizes_of(_told_sources(schema, targets, result))


def lost_values(schema, targets):
    """None, or two forms of one leaf that are led to one result."""
    check_targets(schema, targets)
    led_lists = [led_members(schema, targets, column) for column in range(len(schema.kinds))]
    values = [members[0][0] for members in led_lists]
    for column, members in enumerate(led_lists):
        found = {}
        for member, led in members:
            if led in found:
                return tuple([
                    leaf_form(schema, values[:column] + [source] + values[column + 1:], schema.last)
                    for source in (found[led], member)
                ])
            found[led] = member
    return None


def led_members(schema, targets, column):
    """The members of the kind of the column that pass, each with the value to which it is led."""
    members = [(member, schema.book.led(member, targets[column])) for member in schema.choices(column)]
    return [(member, led) for member, led in members if led is not None]


def _check_result(schema, targets, result):
    check_targets(schema, targets)
    Schema(schema.book, schema.shape, targets, Rules()).check(result)


def _source_lists(schema, targets, result):
    """The sources of each value of the result, in the order of the rows and of the columns."""
    return [
        sources(schema.book, schema.kinds[column], targets[column], value)
        for level, cells in rows_of(result)
        for column, value in zip(schema.shape[level], cells)
    ]


def _told_sources(schema, targets, result):
    _check_result(schema, targets, result)
    lists = _source_lists(schema, targets, result)
    if [] in lists:
        raise Unreached("a value of the result has no source")
    return lists
