"""Shapes: how the columns of a form are arranged in levels."""

from formroads.errors import InvalidShape

MOST_COLUMNS = 4


def check_shape(shape):
    """The shape, if each column stands in exactly one level."""
    for level in shape:
        if not level:
            raise InvalidShape("a level has at least one column")
        if tuple(sorted(level)) != level:
            raise InvalidShape("the columns of a level are in ascending order")
    columns = [column for level in shape for column in level]
    if not 1 <= len(columns) <= MOST_COLUMNS:
        raise InvalidShape("a shape has 1 to 4 columns")
    if sorted(columns) != list(range(len(columns))):
        raise InvalidShape("each column stands in exactly one level")
    return shape


def column_count(shape):
    """The number of columns of a shape."""
    return sum([len(level) for level in shape])


def level_of(shape, column):
    """The level that has the column."""
    for number, level in enumerate(shape):
        if column in level:
            return number
    raise InvalidShape("no level has this column")


def above(shape, level):
    """The columns of the levels before `level`, in ascending order."""
    return tuple(sorted([column for columns in shape[:level] for column in columns]))


def cuts(shape):
    """The cuts of a shape, from cut number 1 on."""
    return [above(shape, number) for number in range(1, len(shape))]


def shape_of(chain, count):
    """The shape with the given cuts and number of columns."""
    levels = []
    smaller = ()
    for cut in list(chain) + [tuple(range(count))]:
        if not all([column in cut for column in smaller]):
            raise InvalidShape("each cut is contained in the next one")
        levels.append(tuple([column for column in cut if column not in smaller]))
        smaller = cut
    return check_shape(tuple(levels))


def depth_of(shape, columns):
    """The level d such that the levels 0 to d have exactly these columns, or -1."""
    wanted = tuple(sorted(columns))
    for depth in range(len(shape)):
        if above(shape, depth + 1) == wanted:
            return depth
    return -1


def path_values(shape, path):
    """For each column its value in the path, or None if the path does not reach its level."""
    values = [None for _ in range(column_count(shape))]
    for level, cells in zip(shape, path):
        for column, value in zip(level, cells):
            values[column] = value
    return values


def values_path(shape, values, depth):
    """The path of this depth with these values by column."""
    return tuple([tuple([values[column] for column in level]) for level in shape[:depth + 1]])
