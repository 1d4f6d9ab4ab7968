"""What regroupings lose, and the regroupings that bring forms back."""

from formroads.choices import possible_branches
from formroads.errors import NotJoined
from formroads.forms import form_of
from formroads.regroupings import Regrouping
from formroads.shapes import above, cuts, path_values, values_path


def lost_pair(schema, regrouping):
    """None, or two forms of two leaves that fit the schema and lead to one result."""
    _check_joined(schema, regrouping)
    columns = range(len(schema.kinds))
    path = values_path(schema.shape, [schema.choices(column)[0] for column in columns], schema.last)
    # Two forms with one result have the same leaves, and some leaf has two branches there. The more the
    # two leaves differ below the greater branch, the fewer cuts can tell the branches apart.
    other_path = values_path(schema.shape, [schema.choices(column)[-1] for column in columns], schema.last)
    for level in range(1, len(schema.shape)):
        next_path = path[:level] + other_path[level:]
        branches = _joined_branches(schema, regrouping, path, next_path)
        if branches is not None:
            return tuple([form_of([(0, path), (branch, next_path)]) for branch in branches])
    return None


def _joined_branches(schema, regrouping, path, next_path):
    """Two possible branches of the later leaf that the regrouping turns into one branch, or None."""
    values = path_values(schema.shape, path)
    next_values = path_values(schema.shape, next_path)
    found = {}
    for branch in possible_branches(schema.rules.parted, path, next_path):
        end = regrouping.end_branch(values, next_values, branch)
        if end in found:
            return (found[end], branch)
        found[end] = branch
    return None


def back_regrouping(regrouping):
    """The regrouping that leads back from the shape after to the shape before."""
    depths = [_back_depth(regrouping.after, cut) for cut in cuts(regrouping.before)]
    return Regrouping(regrouping.after, regrouping.before, depths)


def _back_depth(shape, cut):
    depth = 0
    while all([column in cut for column in above(shape, depth + 1)]):
        depth = depth + 1
    return depth


def unreturned(schema, regrouping):
    """None, or a form of two leaves that fits the schema, is not refused and cannot be brought back."""
    _check_joined(schema, regrouping)
    path = values_path(schema.shape, [schema.choices(column)[0] for column in range(len(schema.kinds))], schema.last)
    for depth in regrouping.refused():
        if ("parted", depth) not in schema.rules:
            return form_of([(0, path), (depth, path)])
    return None


def _check_joined(schema, regrouping):
    if regrouping.before != schema.shape:
        raise NotJoined("the regrouping does not begin with the shape of the schema")
