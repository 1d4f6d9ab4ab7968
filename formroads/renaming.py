"""New numbers for columns and new names for kinds."""

from formroads.errors import InvalidOrder
from formroads.forms import form_of_rows, rows_of
from formroads.kinds import Kindbook, UNKNOWN
from formroads.schemas import Schema
from formroads.shapes import column_count


def _check_order(order, count):
    if sorted(order) != list(range(count)):
        raise InvalidOrder("an order has the number of each column once")


def renumber_shape(shape, order):
    """The shape with new numbers of columns."""
    _check_order(order, column_count(shape))
    return tuple([_new_columns(level, order) for level in shape])


def _new_columns(columns, order):
    return tuple(sorted([order[column] for column in columns]))


def renumber_form(form, shape, order):
    """The form of the shape with the cells where the new numbers put them."""
    new_shape = renumber_shape(shape, order)
    rows = []
    for level, cells in rows_of(form):
        placed = {order[column]: value for column, value in zip(shape[level], cells)}
        rows.append((level, tuple([placed[column] for column in new_shape[level]])))
    return form_of_rows(rows)


def renumber_schema(schema, order):
    """The schema with new numbers of columns."""
    shape = renumber_shape(schema.shape, order)
    kinds = [schema.kinds[order.index(column)] for column in range(len(order))]
    return Schema(schema.book, shape, kinds, schema.rules)


def renumber_step(step, order):
    """The step with new numbers of columns."""
    _check_order(order, len(order))
    if step[0] != "nest":
        return step
    word, level, columns = step
    if not all([column < len(order) for column in columns]):
        raise InvalidOrder("the order has no new number for a column of the step")
    return (word, level, _new_columns(columns, order))


def rename_book(book, names):
    """The kind book with new names of kinds."""
    if not all([name in names for name in book]):
        raise InvalidOrder("a kind has no new name")
    new_names = [names[name] for name in book]
    if len(set(new_names)) < len(new_names):
        raise InvalidOrder("two kinds have the same new name")
    return Kindbook([_renamed_record(book, name, names) for name in book])


def _renamed_record(book, name, names):
    parent = book.parent_of(name)
    if parent is not None:
        parent = names[parent]
    return (names[name], book.size_of(name), parent, book.leads_of(name))


def rename_value(value, names):
    """The value with the new name of its kind."""
    kind, number = value
    if kind not in names:
        raise InvalidOrder("the kind of a value has no new name")
    return (names[kind], number)


def rename_form(form, names):
    """The form with new names of the kinds of its values."""
    rows = [(level, tuple([rename_value(value, names) for value in cells])) for level, cells in rows_of(form)]
    return form_of_rows(rows)


def rename_schema(schema, names):
    """The schema with new names of kinds; the unknown kind keeps its own."""
    book = rename_book(schema.book, names)
    kinds = [kind if kind == UNKNOWN else names[kind] for kind in schema.kinds]
    return Schema(book, schema.shape, kinds, schema.rules)
