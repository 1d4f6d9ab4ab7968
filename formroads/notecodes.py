"""Notes: which items are chosen from several lists, as digits and as numbers."""

from formroads.choices import leaf_choices
from formroads.errors import InvalidNote


def sizes_of(lists):
    """The numbers of items of the lists of two or more items."""
    return [len(items) for items in lists if len(items) > 1]


def note_of(lists, chosen):
    """The note that chooses these items, one from each list."""
    return [items.index(item) for items, item in zip(lists, chosen) if len(items) > 1]


def chosen_by(lists, note):
    """The items that the note chooses, one from each list."""
    _check_note(sizes_of(lists), note)
    chosen = []
    used = 0
    for items in lists:
        if len(items) > 1:
            chosen.append(items[note[used]])
            used = used + 1
        else:
            chosen.append(items[0])
    return chosen


def note_sizes(regrouping, rules, result):
    """The sizes of the choices of the leaves of the result."""
    return sizes_of([choices for _, choices in leaf_choices(regrouping, rules, result)])


def note_number(sizes, note):
    """The number of the note among those that fit the sizes."""
    _check_note(sizes, note)
    number = 0
    for size, digit in zip(sizes, note):
        number = number * size + digit
    return number


def numbered_note(sizes, number):
    """The note that has the number among those that fit the sizes."""
    if number < 0:
        raise InvalidNote("the number of a note is not below 0")
    digits = []
    for size in reversed(sizes):
        number, digit = divmod(number, size)
        digits.append(digit)
    if number > 0:
        raise InvalidNote("there are not so many notes")
    return digits[::-1]


def _check_note(sizes, note):
    if len(note) != len(sizes):
        raise InvalidNote("a note has one digit for each size")
    if not all([0 <= digit < size for digit, size in zip(note, sizes)]):
        raise InvalidNote("a digit is less than its size")
