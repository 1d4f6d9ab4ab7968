"""The choices of branches that a regrouping leaves open."""

from formroads.errors import Unreached
from formroads.forms import check_form, outline_of
from formroads.shapes import above, depth_of, path_values, values_path


def possible_branches(parted, path, next_path):
    """The branches that a leaf with the path `next_path` may have behind a leaf with the path `path`."""
    found = []
    for branch in range(min(len(path), len(next_path))):
        if path[:branch] == next_path[:branch]:
            if branch not in parted or path[branch] != next_path[branch]:
                found.append(branch)
    return found


def start_path(regrouping, path):
    """The path of the shape before with the same values by column."""
    depth = depth_of(regrouping.before, above(regrouping.after, len(path)))
    if depth == -1 or depth in regrouping.refused():
        raise Unreached("no leaf leads to this path")
    return values_path(regrouping.before, path_values(regrouping.after, path), depth)


def branch_choices(regrouping, parted, path, next_path, end):
    """The possible branches that the regrouping turns into the branch `end`."""
    values = path_values(regrouping.before, path)
    next_values = path_values(regrouping.before, next_path)
    branches = possible_branches(parted, path, next_path)
    return [branch for branch in branches if regrouping.end_branch(values, next_values, branch) == end]


def leaf_choices(regrouping, rules, result):
    """For each leaf of the result its start path and its choices."""
    check_form(result, regrouping.after)
    found = []
    for end, end_path in outline_of(result):
        path = start_path(regrouping, end_path)
        choices = [0]
        if found:
            choices = branch_choices(regrouping, rules.parted, found[-1][0], path, end)
        if not choices:
            raise Unreached("a leaf has no choice")
        found.append((path, choices))
    return found
