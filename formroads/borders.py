"""Borders: which values pass, and the forms behind them."""

from formroads.errors import Clash, InvalidSchema, Stopped
from formroads.forms import form_of_rows, rows_of
from formroads.kinds import UNKNOWN


def check_kinds(book, kinds):
    """Checks that each kind is told in the book or unknown."""
    for kind in kinds:
        if kind != UNKNOWN:
            book.checked(kind)


def check_border(book, kinds, targets):
    """Checks that a border with these targets is allowed for the kinds."""
    check_kinds(book, kinds)
    check_kinds(book, targets)
    for kind, target in zip(kinds, targets):
        if kind != UNKNOWN and not book.below(kind, target):
            raise Clash("a told kind is not below its told target")


def check_targets(schema, targets):
    """Checks that a border with these targets is allowed for the columns of the schema."""
    if len(targets) != len(schema.kinds):
        raise InvalidSchema("a border has one target for each column")
    check_border(schema.book, schema.kinds, targets)


def cross_form(book, form, shape, targets, label):
    """The form behind a border."""
    check_kinds(book, targets)
    rows = []
    for level, cells in rows_of(form):
        led = [book.led(value, targets[column]) for column, value in zip(shape[level], cells)]
        if None in led:
            raise Stopped(label)
        rows.append((level, tuple(led)))
    return form_of_rows(rows)


def cross_passages(form, shape, passages, labels):
    """The form behind several borders, which are told by the passages of the columns."""
    rows = rows_of(form)
    stages = [
        passages[column].stage(value)
        for level, cells in rows
        for column, value in zip(shape[level], cells)
    ]
    stages = [stage for stage in stages if stage > 0]
    if stages:
        raise Stopped(labels[min(stages) - 1])
    return form_of_rows([(level, _led_cells(shape[level], cells, passages)) for level, cells in rows])


def _led_cells(columns, cells, passages):
    return tuple([passages[column].lead(value) for column, value in zip(columns, cells)])
