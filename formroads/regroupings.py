"""Regroupings: what a script does to all forms, told by the depths of cuts."""

from formroads.errors import EmptyTable, InvalidRegrouping, NotJoined
from formroads.forms import form_of, outline_of
from formroads.shapes import above, check_shape, column_count, cuts, depth_of, path_values, values_path
from formroads.steps import step_shape


class Regrouping:
    """Turns each form of the shape before into a form of the shape after."""

    def __init__(self, before, after, depths):
        self.before = check_shape(before)
        self.after = check_shape(after)
        self.depths = tuple(depths)
        _check_depths(self.before, self.after, self.depths)

    @staticmethod
    def identity(shape):
        """The regrouping that changes no form of the shape."""
        return Regrouping(shape, shape, list(range(1, len(shape))))

    @staticmethod
    def of(shape, steps):
        """The regrouping that does what the script does."""
        check_shape(shape)
        after = shape
        depths = list(range(1, len(shape)))
        for step in steps:
            after = step_shape(after, step)
            level = step[1]
            if step[0] == "nest":
                depths.insert(level, depths[level - 1] if level > 0 else 0)
            else:
                del depths[level]
        return Regrouping(shape, after, depths)

    def __eq__(self, other):
        return (
            isinstance(other, Regrouping)
            and self.before == other.before
            and self.after == other.after
            and self.depths == other.depths
        )

    def __call__(self, form):
        changed = []
        before = []
        for branch, path in outline_of(form):
            values = path_values(self.before, path)
            end = self.end_branch(before, values, branch) if changed else 0
            changed.append((end, self.end_path(path)))
            before = values
        return form_of(changed)

    def then(self, other):
        """This regrouping with another one behind it."""
        if self.after != other.before:
            raise NotJoined("the other regrouping begins with another shape")
        depths = [self.depths[depth - 1] if depth > 0 else 0 for depth in other.depths]
        return Regrouping(self.before, other.after, depths)

    def refused(self):
        """The depths of hollow leaves that are refused."""
        kept = list(zip(cuts(self.after), self.depths))
        needed = [(cut, number) for number, cut in enumerate(cuts(self.before), start=1)]
        return tuple([depth for depth, cut in enumerate(needed) if cut not in kept])

    def end_path(self, path):
        """The path in the shape after of a leaf with this path."""
        depth = len(path) - 1
        if depth in self.refused():
            raise EmptyTable("hollow leaves of this depth are refused")
        end_depth = depth_of(self.after, above(self.before, depth + 1))
        return values_path(self.after, path_values(self.before, path), end_depth)

    def end_branch(self, values, next_values, branch):
        """The new branch of a leaf, from its values by column and those of the leaf before it."""
        found = 0
        for number, (cut, depth) in enumerate(zip(cuts(self.after), self.depths), start=1):
            if depth <= branch and all([values[column] == next_values[column] for column in cut]):
                found = number
        return found


def _check_depths(before, after, depths):
    if column_count(before) != column_count(after):
        raise InvalidRegrouping("the shapes do not have the same columns")
    if len(depths) != len(after) - 1:
        raise InvalidRegrouping("there is one depth for each cut")
    smallest = 0
    for cut, depth in zip(cuts(after), depths):
        if not smallest <= depth < len(before):
            raise InvalidRegrouping("depths are levels of the shape before, and none is less than the one before it")
        if not all([column in cut for column in above(before, depth)]):
            raise InvalidRegrouping("a cut contains the columns of the levels before its depth")
        smallest = depth
