"""How summaries of roads are made and joined."""

from formroads.errors import NotJoined
from formroads.kinds import UNKNOWN
from formroads.passages import Passage
from formroads.regroupings import Regrouping
from formroads.roads import check_road
from formroads.shapes import above, cuts, depth_of
from formroads.summaries import Summary


def still(schema):
    """The summary of no way."""
    passages = [Passage.of(schema.book, [kind]) for kind in schema.kinds]
    depths = list(range(1, len(schema.shape)))
    compares = [[None for _ in schema.kinds] for _ in depths]
    return Summary(schema, schema, passages, [], [0 for _ in depths], depths, compares)


def way_summary(way):
    """The summary of the road with this one way."""
    regrouping = Regrouping.of(way.start.shape, way.steps)
    passages = [Passage.of(way.start.book, kinds) for kinds in zip(way.start.kinds, way.end.kinds)]
    hollow = [1 if depth in regrouping.refused() else 0 for depth in range(way.start.last)]
    compares = [
        _new_entries(cut, above(way.start.shape, depth), passages)
        for cut, depth in zip(cuts(way.end.shape), regrouping.depths)
    ]
    return _ranked(way.start, way.end, passages, [way.label], hollow, regrouping.depths, compares)


def _new_entries(cut, shared, passages):
    """The entries of a cut behind a way; leaves that share rows have equal values in the shared columns."""
    return [
        (passage.reached or UNKNOWN) if column in cut and column not in shared else None
        for column, passage in enumerate(passages)
    ]


def road_summary(ways):
    """The summary of the road."""
    check_road(ways)
    summary = way_summary(ways[0])
    for way in ways[1:]:
        summary = joined(summary, way_summary(way))
    return summary


def joined(first, second):
    """The summary of both roads, one behind the other."""
    if not first.end.same(second.start):
        raise NotJoined("the second road does not start where the first one ends")
    passages = [passage.then(other) for passage, other in zip(first.passages, second.passages)]
    labels = first.labels + second.labels
    hollow = [_joined_stage(first, second, depth) for depth in range(first.start.last)]
    depths = [first.depths[depth - 1] if depth > 0 else 0 for depth in second.depths]
    compares = [
        _joined_entries(first, depth, entries)
        for depth, entries in zip(second.depths, second.compares)
    ]
    return _ranked(first.start, second.end, passages, labels, hollow, depths, compares)


def _joined_stage(first, second, depth):
    """The stage at which a hollow leaf of this depth stops on both roads, or 0."""
    if first.hollow[depth] > 0:
        return first.hollow[depth]
    stage = second.hollow[depth_of(second.start.shape, above(first.start.shape, depth + 1))]
    return len(first.labels) + stage if stage > 0 else 0


def _joined_entries(first, depth, entries):
    """The entries of a cut of the second road, which has this depth there."""
    smaller = first.compares[depth - 1] if depth > 0 else [None for _ in entries]
    found = []
    for entry, known, passage in zip(entries, smaller, first.passages):
        if entry is None:
            found.append(known)
        elif entry == UNKNOWN:
            found.append(passage.reached or UNKNOWN)
        else:
            found.append(entry)
    return found


def _ranked(start, end, passages, labels, hollow, depths, compares):
    """The summary in which ranks replace stages; `labels` has the label of each stage."""
    stages = [stage for passage in passages for stage in (passage.gate_stage, passage.fail_stage)] + hollow
    stages = sorted(set([stage for stage in stages if stage > 0]))
    # The rank 0 means never, as the stage 0 does.
    ranks = {stage: rank for rank, stage in enumerate([0] + stages)}
    return Summary(
        start, end,
        [passage.renumbered(len(stages), ranks) for passage in passages],
        [labels[stage - 1] for stage in stages],
        [ranks[stage] for stage in hollow],
        depths,
        [_told_entries(entries, passages) for entries in compares],
    )


def _told_entries(entries, passages):
    """The entries, unknown where no value passes the fail stage of its column."""
    return [
        UNKNOWN if entry is not None and passage.fail_stage > 0 else entry
        for entry, passage in zip(entries, passages)
    ]
