"""Short scripts, and what regroupings do to the forms that fit a schema."""

from formroads.errors import InvalidRegrouping, NotJoined
from formroads.forms import form_of
from formroads.regroupings import Regrouping
from formroads.shapes import above, check_shape, column_count, cuts, values_path
from formroads.steps import step_shape


def short_script(regrouping):
    """The shortest script that has the regrouping."""
    steps = []
    shape = regrouping.before
    old_cuts = cuts(regrouping.before)
    end_cuts = list(zip(cuts(regrouping.after), regrouping.depths))
    kept = [cut for number, cut in enumerate(old_cuts, start=1) if (cut, number) in end_cuts]
    for depth in reversed(range(len(regrouping.before))):
        for cut, cut_depth in end_cuts:
            if cut_depth == depth and cut not in kept:
                steps.append(_putting_in(shape, cut))
                shape = step_shape(shape, steps[-1])
        if depth > 0 and old_cuts[depth - 1] not in kept:
            steps.append(("unnest", depth - 1))
            shape = step_shape(shape, steps[-1])
    return steps


def _putting_in(shape, cut):
    """The nest step that puts the cut into the shape."""
    level = len([smaller for smaller in cuts(shape) if all([column in cut for column in smaller])])
    return ("nest", level, tuple([column for column in shape[level] if column not in cut]))


def regroupings_between(before, after):
    """Yields every regrouping with these shapes, in the order of the depths."""
    check_shape(before)
    check_shape(after)
    if column_count(before) != column_count(after):
        raise InvalidRegrouping("the shapes do not have the same columns")
    for depths in _possible_depths(before, after):
        yield Regrouping(before, after, depths)


def _possible_depths(before, after):
    found = [()]
    for cut in cuts(after):
        found = [depths + (depth,) for depths in found for depth in _depths_of_cut(before, cut, depths)]
    return found


def _depths_of_cut(before, cut, depths):
    """The depths that the cut may have behind the depths of the smaller cuts."""
    smallest = depths[-1] if depths else 0
    possible = range(smallest, len(before))
    return [depth for depth in possible if all([column in cut for column in above(before, depth)])]


def script_difference(schema, first, second):
    """None, or a form that fits the schema and for which the two do not do the same."""
    if first.before != schema.shape or second.before != schema.shape or first.after != second.after:
        raise NotJoined("the regroupings do not have the shape of the schema and one shape after")
    path = values_path(schema.shape, [schema.choices(column)[0] for column in range(len(schema.kinds))], schema.last)
    for depth in range(schema.last):
        if (depth in first.refused()) != (depth in second.refused()) and ("full", depth) not in schema.rules:
            return form_of([(0, path[:depth + 1])])
    for depth, other in zip(first.depths, second.depths):
        for level in range(min(depth, other), max(depth, other)):
            if ("parted", level) not in schema.rules:
                return form_of([(0, path), (level, path)])
    return None


def shortest_script(schema, regrouping):
    """A shortest script that does the same to every form that fits the schema."""
    if regrouping.before != schema.shape:
        raise NotJoined("the regrouping does not begin with the shape of the schema")
    scripts = []
    for other in regroupings_between(regrouping.before, regrouping.after):
        if script_difference(schema, regrouping, other) is None:
            scripts.append(short_script(other))
    return min(scripts, key=len)
