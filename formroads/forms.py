"""Forms: nested tables of rows, and the lists of leaves and of rows that stand for them."""

from formroads.errors import InvalidForm


def outline_of(form):
    """The leaves of a form in order, each with its branch and its path."""
    rows = rows_of(form)
    outline = []
    branch = 0
    path = ()
    for (level, cells), following in zip(rows, next_levels(rows)):
        path = path[:level] + (cells,)
        if following <= level:
            outline.append((branch, path))
            branch = following
    return outline


def check_outline(outline):
    """Checks that the list is the outline of a form."""
    before = ()
    for number, (branch, path) in enumerate(outline):
        if not path:
            raise InvalidForm("a path has at least one entry")
        if number == 0 and branch != 0:
            raise InvalidForm("the branch of the first leaf is 0")
        if number > 0 and not 0 <= branch < min(len(before), len(path)):
            raise InvalidForm("a branch is at most the depth of both leaves")
        if before[:branch] != path[:branch]:
            raise InvalidForm("two paths are equal before the branch")
        before = path


def form_of(outline):
    """The form that has this outline."""
    check_outline(outline)
    return form_of_rows([(level, path[level]) for branch, path in outline for level in range(branch, len(path))])


def check_form(form, shape):
    """Checks that the rows of a form fit a shape."""
    for level, cells in rows_of(form):
        if level >= len(shape):
            raise InvalidForm("a row of the last level has no inner rows")
        if len(cells) != len(shape[level]):
            raise InvalidForm("a row has one cell for each column of its level")


def rows_of(form):
    """The rows in order, each with its level and before the rows of its inner table."""
    rows = []
    waiting = [(0, row) for row in reversed(form)]
    while waiting:
        level, (cells, inner) = waiting.pop()
        rows.append((level, cells))
        waiting.extend([(level + 1, row) for row in reversed(inner)])
    return rows


def copy_form(form):
    """A new form with the same rows."""
    return form_of_rows(rows_of(form))


def next_levels(rows):
    """For each row the level of the row after it; 0 for the last row, which is a leaf on every level."""
    return [level for level, _ in rows[1:]] + [0]


def form_of_rows(rows):
    """The form that has these rows in order."""
    form = []
    # The tables that the next row may go into, by level.
    tables = [form]
    for level, cells in rows:
        if not 0 <= level < len(tables):
            raise InvalidForm("a row is at most one level deeper than the row before it")
        inner = []
        tables[level].append((cells, inner))
        tables = tables[:level + 1] + [inner]
    return form
