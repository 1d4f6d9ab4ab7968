"""Forms of one or two leaves in which nothing stops before wanted ranks, and something at them."""

from formroads.choices import possible_branches
from formroads.forms import form_of
from formroads.shapes import above, values_path


class RankedLeaves:
    """The ranks of all members and of all hollow leaves in two summaries with one start schema."""

    def __init__(self, first, second):
        self.schema = first.start
        # The members of each column, each with its two ranks.
        self.ranks = [
            [(value, (first.rank(column, value), second.rank(column, value))) for value in self.schema.choices(column)]
            for column in range(len(self.schema.kinds))
        ]
        # The ranks of leaves by depth: those of the last level are not hollow.
        self.leaf_ranks = list(zip(first.hollow, second.hollow)) + [(0, 0)]

    def form_with(self, wanted):
        """A form of one or two leaves that fits the schema and has the two wanted ranks, or None."""
        late = LateLeaves(self, wanted)
        form = late.one_leaf()
        return late.two_leaves() if form is None else form


class LateLeaves:
    """The members and leaves that are late enough for two wanted ranks."""

    def __init__(self, ranked, wanted):
        self.schema = ranked.schema
        self.ranks = ranked.ranks
        self.leaf_ranks = ranked.leaf_ranks
        self.wanted = wanted
        self.late = [[value for value, ranks in found if self._is_late(ranks)] for found in ranked.ranks]
        self.depths = [depth for depth in range(len(self.schema.shape)) if self._may_end_at(depth)]

    def _is_late(self, ranks):
        return all([rank == 0 or rank >= wanted > 0 for rank, wanted in zip(ranks, self.wanted)])

    def _may_end_at(self, depth):
        if ("full", depth) in self.schema.rules or not self._is_late(self.leaf_ranks[depth]):
            return False
        return all([len(self.late[column]) > 0 for column in above(self.schema.shape, depth + 1)])

    def one_leaf(self):
        """A form of one leaf with the wanted ranks, or None."""
        for depth in self.depths:
            for mark in self._marks(depth, 0):
                for other in self._marks(depth, 1):
                    chosen = {**other, **mark}
                    if all([chosen[column] == other[column] for column in other]):
                        return form_of([(0, self._path(depth, chosen, {}))])
        return None

    def two_leaves(self):
        """A form of two leaves with the wanted ranks, the first by the first leaf, or None."""
        for depth in self.depths:
            for next_depth in self.depths:
                for mark in self._marks(depth, 0):
                    for other in self._marks(next_depth, 1):
                        form = self._form_of_marks(depth, next_depth, mark, other)
                        if form is not None:
                            return form
        return None

    def _marks(self, depth, place):
        """What gives a leaf of the depth the wanted rank in one summary.

        Each is a dict with the value of one column, or without any if every leaf of the depth does.
        """
        wanted = self.wanted[place]
        if wanted in (0, self.leaf_ranks[depth][place]):
            return [{}]
        return [
            {column: value}
            for column in above(self.schema.shape, depth + 1)
            for value, ranks in self.ranks[column]
            if ranks[place] == wanted and self._is_late(ranks)
        ]

    def _form_of_marks(self, depth, next_depth, mark, other):
        # The leaves differ wherever they can, so that parted levels let them stand side by side.
        path = self._path(depth, mark, other)
        fixed = {column: value for level, cells in zip(self.schema.shape, path) for column, value in zip(level, cells)}
        next_path = self._path(next_depth, other, fixed)
        branches = possible_branches(self.schema.rules.parted, path, next_path)
        if not branches:
            return None
        return form_of([(0, path), (branches[0], next_path)])

    def _path(self, depth, chosen, avoided):
        """A path of late members: the chosen ones, and where it can be none of the avoided ones."""
        values = []
        for column, late in enumerate(self.late):
            unlike = [value for value in late if value != avoided.get(column)]
            values.append(chosen.get(column, (unlike + late + [None])[0]))
        return values_path(self.schema.shape, values, depth)
