"""The few pairs of leaves that tell how a summary shares rows."""

from formroads.forms import form_of
from formroads.shapes import above, level_of, values_path


def first_values(schema, values, depth):
    """The first of the values of each column of a leaf of the depth, None for all other columns."""
    columns = above(schema.shape, depth + 1)
    return [found[0] if column in columns else None for column, found in enumerate(values)]


def leaf_form(schema, values, depth):
    """The form of one leaf of the depth with these values by column."""
    return form_of([(0, values_path(schema.shape, values, depth))])


def pair_form(schema, pair, branch, depth):
    """The form of two leaves of the depth; the pair has their values by column."""
    one, other = pair
    return form_of([(0, values_path(schema.shape, one, depth)), (branch, values_path(schema.shape, other, depth))])


def leaf_pairs(schema, values, depth):
    """Values by column of two leaves of the depth, and a branch of the later one.

    The two differ in one column at the branch, or they are equal and the branch is not parted.
    """
    usual = first_values(schema, values, depth)
    pairs = []
    for column in above(schema.shape, depth + 1):
        for number, value in enumerate(values[column]):
            for other in values[column][number + 1:]:
                one = _with_value(usual, column, value)
                pairs.append((one, _with_value(usual, column, other), level_of(schema.shape, column)))
    levels = [level for level in range(depth + 1) if ("parted", level) not in schema.rules]
    return pairs + [(usual, usual, level) for level in levels]


def _with_value(values, column, value):
    return values[:column] + [value] + values[column + 1:]
