"""The same work in another order: all borders first, or all steps first."""

from formroads.kinds import UNKNOWN
from formroads.summaries import Summary


def early(summary):
    """The summary of the work in which all borders come before all steps."""
    border_ranks = _border_ranks(summary)
    border_numbers = _numbers(border_ranks, 0)
    step_numbers = _numbers(_step_ranks(summary), len(border_ranks))
    kinds = [passage.reached or UNKNOWN for passage in summary.passages]
    return _reordered(summary, border_numbers, step_numbers, kinds)


def late(summary):
    """The summary of the work in which all steps come before all borders."""
    step_ranks = _step_ranks(summary)
    step_numbers = _numbers(step_ranks, 0)
    border_numbers = _numbers(_border_ranks(summary), len(step_ranks))
    kinds = [passage.start_kind for passage in summary.passages]
    return _reordered(summary, border_numbers, step_numbers, kinds)


def _border_ranks(summary):
    ranks = [rank for passage in summary.passages for rank in (passage.gate_stage, passage.fail_stage)]
    return sorted(set([rank for rank in ranks if rank > 0]))


def _step_ranks(summary):
    return sorted(set([rank for rank in summary.hollow if rank > 0]))


def _numbers(ranks, before):
    """The new number of each rank, behind so many other ranks; the rank 0 stays 0."""
    numbers = {0: 0}
    for number, rank in enumerate(ranks, start=before + 1):
        numbers[rank] = number
    return numbers


def _reordered(summary, border_numbers, step_numbers, kinds):
    """The summary with new numbers for its ranks, which compares the columns by these kinds."""
    ranks = [
        (number, rank)
        for numbers in (border_numbers, step_numbers)
        for rank, number in numbers.items()
        if rank > 0
    ]
    labels = [summary.labels[rank - 1] for _, rank in sorted(ranks)]
    compared = [
        UNKNOWN if passage.fail_stage > 0 else kind
        for passage, kind in zip(summary.passages, kinds)
    ]
    return Summary(
        summary.start, summary.end,
        [passage.renumbered(len(labels), border_numbers) for passage in summary.passages],
        labels,
        [step_numbers[rank] for rank in summary.hollow],
        summary.depths,
        [
            [None if entry is None else kind for entry, kind in zip(entries, compared)]
            for entries in summary.compares
        ],
    )
