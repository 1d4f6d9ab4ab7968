"""Where summaries stop forms, and whether two of them stop the same forms in the same way."""

from formroads.errors import NotJoined
from formroads.lateleaves import LateLeaves, RankedLeaves


def passing(summaries, rules):
    """The members by column that pass in every summary, and the depths that leaves of passing forms can have."""
    schema = summaries[0].start
    values = tuple([_passing_members(summaries, column) for column in range(len(schema.kinds))])
    depths = []
    for depth, level in enumerate(schema.shape):
        if not all([len(values[column]) > 0 for column in level]):
            break
        if depth == schema.last or _may_be_hollow(summaries, rules, depth):
            depths.append(depth)
    return (values, tuple(depths))


def _passing_members(summaries, column):
    members = summaries[0].start.choices(column)
    return tuple([value for value in members if all([summary.rank(column, value) == 0 for summary in summaries])])


def _may_be_hollow(summaries, rules, depth):
    return ("full", depth) not in rules and all([summary.hollow[depth] == 0 for summary in summaries])


def ranked_form(summary, rank):
    """A form of one leaf that fits the start schema and has the rank, or None."""
    return LateLeaves(RankedLeaves(summary, summary), (rank, rank)).one_leaf()


def label_difference(first, second):
    """None, or a form that only one of the summaries stops or that they stop with different labels."""
    if not first.start.same(second.start):
        raise NotJoined("the summaries do not have the same start schema")
    ranked = RankedLeaves(first, second)
    for rank in range(len(first.labels) + 1):
        for other in range(len(second.labels) + 1):
            if _label_of(first, rank) != _label_of(second, other):
                form = ranked.form_with((rank, other))
                if form is not None:
                    return form
    return None


def _label_of(summary, rank):
    """The label of the rank, or None for the rank 0."""
    return summary.labels[rank - 1] if rank > 0 else None
