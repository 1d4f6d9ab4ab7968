"""How outlines of forms that fit a schema may go on, in numbers."""


class LeafCounts:
    """Counts and numbers the leaves that may come next in an outline.

    Here `left` is the number of leaves that may still follow a leaf, and `before` is the path of the
    leaf before it, which is empty for the first leaf. The number of a leaf counts each smaller leaf
    as often as outlines can go on with it, so if `left` is 0 it counts the smaller leaves.
    """

    def __init__(self, schema, most):
        self.shape = schema.shape
        self.listed = [schema.choices(column) for column in range(len(schema.kinds))]
        self.hollow = [("full", level) not in schema.rules for level in range(len(schema.shape))]
        self.barring = [("parted", level) in schema.rules for level in range(len(schema.shape))]
        self.row_counts = [self._count_rows(columns) for columns in schema.shape]
        # By `left` and level: in how many ways an outline goes on behind a leaf of the level,
        # and in how many ways behind a row of the level that may be the leaf or be above it.
        self.behind = [[1 for _ in schema.shape]]
        self.under = [self._count_under(self.behind[0])]
        for left in range(most):
            self.behind.append(self._count_behind(self.under[left]))
            self.under.append(self._count_under(self.behind[left + 1]))

    def _count_rows(self, columns):
        count = 1
        for column in columns:
            count = count * len(self.listed[column])
        return count

    def _count_under(self, behind):
        under = []
        count = 0
        for level in reversed(range(len(self.shape))):
            if self.hollow[level]:
                count = count + behind[level]
            under.append(count)
            count = count * self.row_counts[level]
        return under[::-1]

    def _count_behind(self, under):
        behind = []
        count = 1
        for level, rows in enumerate(self.row_counts):
            count = count + (rows - 1 if self.barring[level] else rows) * under[level]
            behind.append(count)
        return behind

    def outline_count(self, most):
        """The number of outlines with at most `most` leaves."""
        if most == 0:
            return 1
        return 1 + self.row_counts[0] * self.under[most - 1][0]

    def leaf_number(self, before, leaf, left):
        """The number of a leaf."""
        branch, path = leaf
        number = sum([self._branch_count(before, level, left) for level in range(branch)])
        row = self._row_number(branch, path[branch])
        if 0 <= self._barred_row(before, branch) < row:
            row = row - 1
        number = number + row * self.under[left][branch]
        for level in range(branch + 1, len(path)):
            if self.hollow[level - 1]:
                number = number + self.behind[left][level - 1]
            number = number + self._row_number(level, path[level]) * self.under[left][level]
        return number

    def numbered_leaf(self, before, number, left):
        """The last leaf whose number is at most `number`, and what then remains of the number.

        None if `number` is not less than all leaves count together.
        """
        for branch in range(max(len(before), 1)):
            count = self._branch_count(before, branch, left)
            if number < count:
                return self._branch_leaf(before, branch, number, left)
            number = number - count
        return None

    def _branch_leaf(self, before, branch, number, left):
        row, number = divmod(number, self.under[left][branch])
        if 0 <= self._barred_row(before, branch) <= row:
            row = row + 1
        level = branch
        path = before[:branch] + (self._numbered_row(branch, row),)
        while not self.hollow[level] or number >= self.behind[left][level]:
            if self.hollow[level]:
                number = number - self.behind[left][level]
            level = level + 1
            row, number = divmod(number, self.under[left][level])
            path = path + (self._numbered_row(level, row),)
        return (branch, path), number

    def _branch_count(self, before, branch, left):
        rows = self.row_counts[branch]
        if self._barred_row(before, branch) >= 0:
            rows = rows - 1
        return rows * self.under[left][branch]

    def _barred_row(self, before, level):
        # In a parted table the next row differs from the row before it; -1 stands for no such row.
        if before and self.barring[level]:
            return self._row_number(level, before[level])
        return -1

    def _row_number(self, level, cells):
        number = 0
        for column, value in zip(self.shape[level], cells):
            number = number * len(self.listed[column]) + self.listed[column].index(value)
        return number

    def _numbered_row(self, level, number):
        cells = []
        for column in reversed(self.shape[level]):
            number, place = divmod(number, len(self.listed[column]))
            cells.append(self.listed[column][place])
        return tuple(cells[::-1])
