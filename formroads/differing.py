"""Whether two summaries have the same outcome for every form."""

from formroads.errors import NotJoined
from formroads.leafpairs import first_values, leaf_form, leaf_pairs, pair_form
from formroads.shapes import above
from formroads.stops import label_difference, passing


def difference(first, second):
    """None, or a form of one or two leaves that fits the start schema and has different outcomes."""
    if first.end.shape != second.end.shape:
        raise NotJoined("the summaries do not have the same end shape")
    form = label_difference(first, second)
    if form is not None:
        return form
    values, depths = passing([first, second], first.start.rules)
    if not depths:
        return None
    form = _led_difference(first, second, values, depths[-1])
    if form is not None:
        return form
    return _branch_difference(first, second, values, depths[-1])


def _led_difference(first, second, values, depth):
    """None, or a form of one leaf with a value that is led to different values."""
    usual = first_values(first.start, values, depth)
    for column in above(first.start.shape, depth + 1):
        for value in values[column]:
            if first.passages[column].lead(value) != second.passages[column].lead(value):
                return leaf_form(first.start, usual[:column] + [value] + usual[column + 1:], depth)
    return None


def _branch_difference(first, second, values, depth):
    """None, or a form of two leaves of which the later one gets different branches."""
    for one, other, branch in leaf_pairs(first.start, values, depth):
        if first.end_branch_of(one, other, branch) != second.end_branch_of(one, other, branch):
            return pair_form(first.start, (one, other), branch, depth)
    return None
