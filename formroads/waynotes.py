"""Notes of ways and of roads, which bring forms back."""

from formroads.choices import leaf_choices
from formroads.errors import InvalidNote, Unreached
from formroads.notes import restore, script_note
from formroads.regroupings import Regrouping
from formroads.roads import check_road
from formroads.rules import Rules
from formroads.valuenotes import restore_values, sources, value_note


def way_note(way, form):
    """The note of the way for the form: what its border and what its steps leave open."""
    way.send(form)
    behind = way.cross(form, way.start.shape)
    return (value_note(way.start, way.end.kinds, form), script_note(_regrouping_of(way), Rules(), behind))


def bring_back(way, result, note):
    """The form that the way leads to the result and that has the note."""
    if way_count(way, result) == 0:
        raise Unreached("the way leads no form to the result")
    values, branches = note
    behind = restore(_regrouping_of(way), Rules(), result, branches)
    return restore_values(way.start, way.end.kinds, behind, values)


def way_count(way, result):
    """The number of forms that the way leads to the result."""
    way.end.with_rules(Rules()).check(result)
    try:
        leaves = leaf_choices(_regrouping_of(way), Rules(), result)
    except Unreached:
        return 0
    count = 1
    for path, choices in leaves:
        # A leaf brings the rows from its branch on, and each of their values may have several sources.
        found = [_row_count(way, level, cells) for level, cells in enumerate(path)]
        count = count * sum([_product(found[branch:]) for branch in choices])
    return count


def _row_count(way, level, cells):
    """The number of rows of a level that the border of the way leads to these cells."""
    book = way.start.book
    return _product([
        len(sources(book, way.start.kinds[column], way.end.kinds[column], value))
        for column, value in zip(way.start.shape[level], cells)
    ])


def _product(numbers):
    count = 1
    for number in numbers:
        count = count * number
    return count


def _regrouping_of(way):
    return Regrouping.of(way.start.shape, way.steps)


def road_notes(ways, form):
    """The notes of the ways, each for the form as it arrives there."""
    check_road(ways)
    notes = []
    for way in ways:
        notes.append(way_note(way, form))
        form = way.send(form)
    return notes


def bring_back_road(ways, result, notes):
    """The form that the ways with these notes lead to the result."""
    check_road(ways)
    if len(notes) != len(ways):
        raise InvalidNote("a road has one note for each way")
    form = result
    for way, note in zip(ways[::-1], notes[::-1]):
        form = bring_back(way, form, note)
    return form
