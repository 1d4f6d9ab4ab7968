"""Answers about a form, told from the form that it became."""

from formroads.errors import NotAnswered
from formroads.forms import outline_of
from formroads.leafpairs import first_values, leaf_form, leaf_pairs, pair_form
from formroads.queries import check_query, counted_level, counted_pair, gathered, named_kinds
from formroads.rules import Rules
from formroads.shapes import above, depth_of, path_values
from formroads.stops import passing


def unanswered(summary, query):
    """None, or two passing forms with the same result and different answers."""
    schema = summary.start
    check_query(schema, query)
    values, depths = passing([summary], Rules())
    level = counted_level(schema, query)
    if not depths or depths[-1] < level:
        return None
    pair = _led_pair(summary, query, values, depths[-1])
    if pair is None and depths[-1] > level:
        pair = _branch_pair(summary, values, depths[-1], level)
    return pair


def _led_pair(summary, query, values, depth):
    """None, or two forms of one leaf with one result, whose values the query tells apart."""
    schema = summary.start
    usual = first_values(schema, values, depth)
    for column, kind in named_kinds(query):
        told = {}
        for value in values[column]:
            end_value = summary.passages[column].lead(value)
            first = told.setdefault(end_value, value)
            if schema.book.led(first, kind) != schema.book.led(value, kind):
                return tuple([
                    leaf_form(schema, usual[:column] + [other] + usual[column + 1:], depth)
                    for other in (first, value)
                ])
    return None


def _branch_pair(summary, values, depth, level):
    """None, or two forms with one result, whose two leaves stand in two rows of the level or in one."""
    schema = summary.start
    shared = above(schema.shape, level + 1)
    for one, other, _ in leaf_pairs(schema.with_rules(Rules()), values, depth):
        if all([one[column] == other[column] for column in shared]):
            if summary.end_branch_of(one, other, level) == summary.end_branch_of(one, other, level + 1):
                return tuple([pair_form(schema, (one, other), branch, depth) for branch in (level, level + 1)])
    return None


def answer_back(summary, query, result):
    """The answer about the passing form with this result."""
    if unanswered(summary, query) is not None:
        raise NotAnswered("forms with one result have different answers")
    schema = summary.start
    level = counted_level(schema, query)
    last_branch = len([depth for depth in summary.depths if depth <= level])
    values, _ = passing([summary], Rules())
    pairs = []
    for branch, path in outline_of(result):
        depth = depth_of(schema.shape, above(summary.end.shape, len(path)))
        if depth >= level and branch <= last_branch:
            start_values = _start_values(summary, query, values, path_values(summary.end.shape, path))
            pairs.append(counted_pair(schema.book, query, start_values))
    return gathered(query, pairs)


def _start_values(summary, query, values, end_values):
    """By column of the query, a passing value that is led to the end value; the query tells none of them apart."""
    found = {}
    for column, _ in named_kinds(query):
        passage = summary.passages[column]
        found[column] = [value for value in values[column] if passage.lead(value) == end_values[column]][0]
    return found
