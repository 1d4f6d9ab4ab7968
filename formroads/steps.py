"""Steps that nest and unnest the tables of forms, and scripts of steps."""

from formroads.errors import EmptyTable, InvalidStep
from formroads.forms import copy_form, form_of_rows, next_levels, rows_of


def step_shape(shape, step):
    """The shape after the step."""
    word = step[0]
    if word == "nest":
        return _nested_shape(shape, step[1], step[2])
    if word == "unnest":
        return _unnested_shape(shape, step[1])
    raise InvalidStep("a step nests or unnests")


def _nested_shape(shape, level, columns):
    if not 0 <= level < len(shape):
        raise InvalidStep("the shape does not have the level")
    nested = tuple([column for column in shape[level] if column in columns])
    remaining = tuple([column for column in shape[level] if column not in columns])
    if nested != columns or not nested or not remaining:
        raise InvalidStep("a nest step takes some columns of its level, but not all, in ascending order")
    return shape[:level] + (remaining, nested) + shape[level + 1:]


def _unnested_shape(shape, level):
    if not 0 <= level < len(shape) - 1:
        raise InvalidStep("the shape does not have the level and a level after it")
    merged = tuple(sorted(shape[level] + shape[level + 1]))
    return shape[:level] + (merged,) + shape[level + 2:]


def script_shape(shape, steps):
    """The shape after the script."""
    for step in steps:
        shape = step_shape(shape, step)
    return shape


def step_form(form, shape, step):
    """The form after the step."""
    after = step_shape(shape, step)
    level = step[1]
    if step[0] == "nest":
        return form_of_rows(_nested_rows(rows_of(form), shape[level], after[level], level))
    rows = rows_of(form)
    for (depth, _), following in zip(rows, next_levels(rows)):
        if depth == level and following <= level:
            raise EmptyTable("a table to be unnested is empty")
    return form_of_rows(_unnested_rows(rows, shape[level] + shape[level + 1], after[level], level))


def _nested_rows(rows, columns, remaining, level):
    nested = [column for column in columns if column not in remaining]
    changed = []
    # The cells of the row of the level that the next row may join, if there is one in its table.
    joined = None
    for depth, cells in rows:
        if depth > level:
            changed.append((depth + 1, cells))
        elif depth < level:
            changed.append((depth, cells))
            joined = None
        else:
            kept = _picked(columns, cells, remaining)
            if kept != joined:
                changed.append((level, kept))
            changed.append((level + 1, _picked(columns, cells, nested)))
            joined = kept
    return changed


def _unnested_rows(rows, columns, merged, level):
    changed = []
    outer = ()
    for depth, cells in rows:
        if depth < level:
            changed.append((depth, cells))
        elif depth == level:
            outer = cells
        elif depth == level + 1:
            changed.append((level, _picked(columns, outer + cells, merged)))
        else:
            changed.append((depth - 1, cells))
    return changed


def _picked(columns, cells, wanted):
    """The cells of the wanted columns, out of the cells of all the columns."""
    return tuple([cells[columns.index(column)] for column in wanted])


def run_script(form, shape, steps):
    """The form after the script."""
    script_shape(shape, steps)
    changed = copy_form(form)
    for step in steps:
        changed = step_form(changed, shape, step)
        shape = step_shape(shape, step)
    return changed
