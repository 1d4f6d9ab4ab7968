"""Which rules the results of a summary obey."""

from formroads.errors import RuleLost
from formroads.joining import way_summary
from formroads.leafpairs import first_values, leaf_form, leaf_pairs, pair_form
from formroads.rules import Rules
from formroads.shapes import above, depth_of
from formroads.stops import passing
from formroads.ways import Way


def lost_rule(summary, rules):
    """None, or the first of the rules that some result breaks, and a form with such a result."""
    # Rules that are not about the levels of the end shape are no rules of a schema with this shape.
    summary.end.with_rules(rules)
    broken = _broken_rules(summary)
    for rule in rules.named():
        if rule in broken:
            return (rule, broken[rule])
    return None


def kept_rules(summary):
    """All rules about the end shape that every result obeys."""
    broken = _broken_rules(summary)
    full = [level for level in range(summary.end.last) if ("full", level) not in broken]
    parted = [level for level in range(summary.end.last + 1) if ("parted", level) not in broken]
    return Rules(full, parted)


def _broken_rules(summary):
    """The rules that some results break, each with a form of one or two leaves that has such a result."""
    start = summary.start
    values, depths = passing([summary], start.rules)
    broken = {}
    for depth in depths:
        if depth < start.last:
            end_depth = depth_of(summary.end.shape, above(start.shape, depth + 1))
            broken[("full", end_depth)] = leaf_form(start, first_values(start, values, depth), depth)
    if depths:
        for one, other, branch in leaf_pairs(start, values, depths[-1]):
            end_branch = summary.end_branch_of(one, other, branch)
            if _have_equal_cells(summary, one, other, end_branch):
                broken[("parted", end_branch)] = pair_form(start, (one, other), branch, depths[-1])
    return broken


def _have_equal_cells(summary, one, other, level):
    """True if two leaves with these values by column have equal cells at a level of the result."""
    return all([
        summary.passages[column].lead(one[column]) == summary.passages[column].lead(other[column])
        for column in summary.end.shape[level]
    ])


def keeping_way(name, label, start, end, steps):
    """A new way on which no rule of its end is lost."""
    way = Way(name, label, start, end, steps)
    lost = lost_rule(way_summary(way), end.rules)
    if lost is not None:
        raise RuleLost(lost[0])
    return way
