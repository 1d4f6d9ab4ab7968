"""Summaries: what a whole road does to all forms, in bounded size."""

from formroads.forms import form_of, outline_of, rows_of
from formroads.shapes import above, depth_of, path_values, values_path


class Summary:
    """Tells the outcome of a road for every form."""

    def __init__(self, start, end, passages, labels, hollow, depths, compares):
        self.start = start
        self.end = end
        self.passages = tuple(passages)
        self.labels = tuple(labels)
        self.hollow = tuple(hollow)
        self.depths = tuple(depths)
        self.compares = tuple([tuple(entries) for entries in compares])

    def rank(self, column, value):
        """The rank of a value of the column."""
        return self.passages[column].stage(value)

    def form_rank(self, form):
        """The rank of the form: the least one above 0 of its values and hollow leaves, or 0."""
        ranks = [
            self.rank(column, value)
            for level, cells in rows_of(form)
            for column, value in zip(self.start.shape[level], cells)
        ]
        depths = [len(path) - 1 for _, path in outline_of(form)]
        ranks.extend([self.hollow[depth] for depth in depths if depth < self.start.last])
        return min([rank for rank in ranks if rank > 0], default=0)

    def shares(self, at, values, next_values, branch):
        """True if two neighbouring leaves share the rows above cut number `at + 1` of the end."""
        if branch < self.depths[at]:
            return False
        book = self.start.book
        for kind, value, next_value in zip(self.compares[at], values, next_values):
            if kind is not None and book.led(value, kind) != book.led(next_value, kind):
                return False
        return True

    def end_branch_of(self, values, next_values, branch):
        """The branch in the result of the later one of two neighbouring leaves."""
        shared = [at + 1 for at in range(len(self.depths)) if self.shares(at, values, next_values, branch)]
        return max(shared, default=0)

    def facts(self):
        return (
            _schema_facts(self.start), _schema_facts(self.end),
            tuple([passage.facts() for passage in self.passages]),
            self.labels, self.hollow, self.depths, self.compares,
        )

    def __call__(self, form):
        """The outcome of the form."""
        rank = self.form_rank(form)
        if rank > 0:
            return ("stopped", self.labels[rank - 1])
        changed = []
        before = []
        for branch, path in outline_of(form):
            values = path_values(self.start.shape, path)
            end = self.end_branch_of(before, values, branch) if changed else 0
            changed.append((end, self._end_path(values, len(path) - 1)))
            before = values
        return ("through", form_of(changed))

    def _end_path(self, values, depth):
        """The path in the result of a leaf of this depth with these values by column."""
        led = [None if value is None else passage.lead(value) for passage, value in zip(self.passages, values)]
        end_depth = depth_of(self.end.shape, above(self.start.shape, depth + 1))
        return values_path(self.end.shape, led, end_depth)


def _schema_facts(schema):
    return (schema.shape, schema.kinds, schema.rules.full, schema.rules.parted)
