"""Walks that show that there is no sound table."""

from formroads.kinds import UNKNOWN


def check_walks(places, walks):
    """True if the walks show that there is no sound table."""
    if not all([_is_walk(places, walk) for walk in walks]):
        return False
    starts = [walk[0] for walk in walks]
    end_kinds = [places.kind_of(walk[-1]) for walk in walks]
    if UNKNOWN in end_kinds:
        return False
    if len(walks) == 1:
        kind = places.kind_of(starts[0])
        return kind != UNKNOWN and not places.book.below(kind, end_kinds[0])
    if len(walks) == 2:
        if starts[0] != starts[1] or places.kind_of(starts[0]) != UNKNOWN:
            return False
        return places.book.finer(end_kinds[0], end_kinds[1]) is None
    return False


def _is_walk(places, walk):
    return len(walk) > 1 and all([link in places.links for link in zip(walk, walk[1:])])
