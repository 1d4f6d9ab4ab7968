"""Which kind of a sequence is to blame for a value that stops."""

from formroads.borders import check_border, check_kinds


def walk_value(book, kinds, value):
    """The values behind the borders that a member of the first kind passes, and the stage at which it stops."""
    check_kinds(book, kinds)
    check_border(book, kinds[:-1], kinds[1:])
    behind = []
    for stage, kind in enumerate(kinds[1:], start=1):
        value = book.led(value, kind)
        if value is None:
            return (behind, stage)
        behind.append(value)
    return (behind, 0)


def blamed(book, kinds, value):
    """The position that is blamed for the value, or None if it passes."""
    _, stage = walk_value(book, kinds, value)
    return stage - 1 if stage > 0 else None


def blamable(book, kinds):
    """The positions that are blamed for at least one member of the first kind."""
    positions = [blamed(book, kinds, value) for value in book.members(kinds[0])]
    return sorted(set([position for position in positions if position is not None]))
