"""What several tests need: kind books, all small forms, and the definitions of DOC.md in the plainest words.

The functions that begin with `plain_` work on nested tables directly, as DOC.md describes them, and use
nothing of the program. The tests compare the program with them.
"""

import itertools
import unittest

from formroads.editions import Editions
from formroads.houses import House
from formroads.kinds import Kindbook
from formroads.passages import Passage
from formroads.places import Places
from formroads.regroupings import Regrouping
from formroads.rules import Rules
from formroads.schemas import Schema
from formroads.summaries import Summary
from formroads.ways import Way
from formroads.webs import Web

RECORDS = [("month", 2, None, ()), ("day", 3, "month", (0, 0, 1)), ("size", 2, None, ())]
BIT = (("bit", 0), ("bit", 1))


def sample_book():
    """The kind book of the examples."""
    return Kindbook(RECORDS)


def bit_book():
    """A kind book with one kind of two numbers."""
    return Kindbook([("bit", 2, None, ())])


def bit_schema(shape, rules=None):
    """A schema whose columns all have the kind bit."""
    count = sum(len(level) for level in shape)
    return Schema(bit_book(), shape, ("bit",) * count, rules or Rules())


def all_shapes(count):
    """All shapes with the columns 0 to count - 1."""
    def split(columns):
        if not columns:
            yield ()
        for size in range(1, len(columns) + 1):
            for level in itertools.combinations(columns, size):
                for rest in split(tuple(column for column in columns if column not in level)):
                    yield (level,) + rest
    return list(split(tuple(range(count))))


def all_rules(shape):
    """All sets of rules about the levels of a shape."""
    last = len(shape) - 1
    for full in all_subsets(range(last)):
        for parted in all_subsets(range(last + 1)):
            yield Rules(full, parted)


def all_subsets(items):
    items = list(items)
    for size in range(len(items) + 1):
        yield from itertools.combinations(items, size)


def all_forms(shape, choices, most):
    """All forms of the shape with at most `most` leaves, whose columns have values from `choices`."""
    return [form for leaves in range(most + 1) for form in _tables(shape, 0, choices, leaves)]


def bit_forms(shape, most):
    return all_forms(shape, [BIT] * sum(len(level) for level in shape), most)


def _tables(shape, level, choices, leaves):
    """All tables of a level with exactly so many leaves."""
    if leaves == 0:
        yield []
        return
    for first in range(1, leaves + 1):
        for row in _rows(shape, level, choices, first):
            for rest in _tables(shape, level, choices, leaves - first):
                yield [row] + rest


def _rows(shape, level, choices, leaves):
    """All rows of a level with exactly so many leaves, of which the row itself is the only one if it is one."""
    for cells in itertools.product(*[choices[column] for column in shape[level]]):
        if leaves == 1:
            yield (cells, [])
        if level + 1 < len(shape):
            for inner in _tables(shape, level + 1, choices, leaves):
                yield (cells, inner)


def plain_outline(form):
    """The outline by the words of point 12: rows are the same if they are one and the same row."""
    leaves = []

    def descend(table, rows):
        for number, (cells, inner) in enumerate(table):
            here = rows + [(id(table), number, cells)]
            if inner:
                descend(inner, here)
            else:
                leaves.append(here)

    descend(form, [])
    outline = []
    for number, leaf in enumerate(leaves):
        branch = 0
        before = leaves[number - 1] if number else []
        while branch < min(len(before), len(leaf)) and before[branch][:2] == leaf[branch][:2]:
            branch += 1
        outline.append((branch, tuple(row[2] for row in leaf)))
    return outline


def plain_rows(form, level=0):
    """The rows by the words of point 14."""
    rows = []
    for cells, inner in form:
        rows.append((level, cells))
        rows.extend(plain_rows(inner, level + 1))
    return rows


def plain_obeys(form, rule, level=0):
    """Whether the form obeys the rule, by the words of point 15; the last level is never asked to be full."""
    word, depth = rule
    if level == depth and word == "full" and not all(inner for cells, inner in form):
        return False
    if level == depth and word == "parted":
        if any(first[0] == second[0] for first, second in zip(form, form[1:])):
            return False
    return all(plain_obeys(inner, rule, level + 1) for cells, inner in form)


def plain_key(outline, listed, shape):
    """Compares as point 26 says; `listed` has the members of the kind of each column."""
    key = []
    for branch, path in outline:
        key.append((branch, tuple(
            tuple(listed[column].index(value) for column, value in zip(level, cells))
            for level, cells in zip(shape, path)
        )))
    return key


class Emptied(Exception):
    """An unnest step met an empty table."""


def plain_shape(shape, step):
    """The shape after a step that fits."""
    level = step[1]
    if step[0] == "nest":
        rest = tuple(column for column in shape[level] if column not in step[2])
        return shape[:level] + (rest, step[2]) + shape[level + 1:]
    return shape[:level] + (tuple(sorted(shape[level] + shape[level + 1])),) + shape[level + 2:]


def plain_step(form, shape, step):
    """The form after a step, by the words of points 32 and 33."""
    change = plain_nest if step[0] == "nest" else plain_unnest

    def descend(table, level):
        if level == step[1]:
            return change(table, shape, step)
        return [(cells, descend(inner, level + 1)) for cells, inner in table]

    return descend(form, 0)


def plain_nest(table, shape, step):
    columns = shape[step[1]]
    rows = []
    for cells, inner in table:
        kept = tuple(value for column, value in zip(columns, cells) if column not in step[2])
        nested = tuple(value for column, value in zip(columns, cells) if column in step[2])
        rows.append((kept, (nested, inner)))
    return [
        (kept, [row for _, row in group])
        for kept, group in itertools.groupby(rows, key=lambda row: row[0])
    ]


def plain_unnest(table, shape, step):
    columns = shape[step[1]] + shape[step[1] + 1]
    rows = []
    for cells, inner in table:
        if not inner:
            raise Emptied
        for inner_cells, rest in inner:
            placed = sorted(zip(columns, cells + inner_cells))
            rows.append((tuple(value for _, value in placed), rest))
    return rows


def plain_script(form, shape, steps):
    """The form after a script, or None if a step meets an empty table."""
    try:
        for step in steps:
            form = plain_step(form, shape, step)
            shape = plain_shape(shape, step)
    except Emptied:
        return None
    return form


def all_steps(shape):
    """All steps that fit the shape."""
    for level, columns in enumerate(shape):
        for nested in all_subsets(columns):
            if 0 < len(nested) < len(columns):
                yield ("nest", level, nested)
        if level + 1 < len(shape):
            yield ("unnest", level)


def all_scripts(shape, most):
    """All scripts of at most `most` steps that fit the shape."""
    yield []
    if most:
        for step in all_steps(shape):
            for rest in all_scripts(plain_shape(shape, step), most - 1):
                yield [step] + rest


def plain_cuts(shape):
    """The cuts of a shape."""
    return [tuple(sorted(sum(shape[:number], ()))) for number in range(1, len(shape))]


def plain_depths(before, after):
    """The depths of all regroupings with these shapes, by the words of point 36, in lexicographic order."""
    found = []
    for depths in itertools.product(range(len(before)), repeat=len(after) - 1):
        fits = all(set(sum(before[:depth], ())) <= set(cut) for cut, depth in zip(plain_cuts(after), depths))
        if fits and list(depths) == sorted(depths):
            found.append(depths)
    return found


def all_regroupings(count):
    """All regroupings of shapes with so many columns."""
    shapes = all_shapes(count)
    return [
        Regrouping(before, after, depths)
        for before in shapes for after in shapes for depths in plain_depths(before, after)
    ]


def plain(thing):
    """All that an object says of itself, as lists and tuples, so that it can be compared and kept."""
    if isinstance(thing, Kindbook):
        return ("book", [(name, thing.size_of(name), thing.parent_of(name), thing.leads_of(name)) for name in thing.names])
    if isinstance(thing, Schema):
        return ("schema", plain(thing.book), thing.shape, thing.kinds, plain(thing.rules), thing.last)
    if isinstance(thing, Rules):
        return ("rules", thing.full, thing.parted)
    if isinstance(thing, Regrouping):
        return ("regrouping", thing.before, thing.after, thing.depths)
    if isinstance(thing, Passage):
        return ("passage", plain(thing.book), thing.facts())
    if isinstance(thing, Way):
        return ("way", thing.name, thing.label, plain(thing.start), plain(thing.end), thing.steps)
    if isinstance(thing, Summary):
        return ("summary", plain(thing.start), plain(thing.end), thing.facts())
    if isinstance(thing, Places):
        return ("places", plain(thing.book), thing.rows, thing.links)
    if isinstance(thing, Web):
        offices = [(name, plain(thing.office(name))) for name in thing.office_names()]
        ways = [(name, thing.ends(name), plain(thing.way(name))) for name in thing.way_names()]
        return ("web", plain(thing.book), offices, ways)
    if isinstance(thing, Editions):
        return ("editions", [plain(thing.web_at(edition)) for edition in range(thing.latest() + 1)])
    if isinstance(thing, House):
        travellers = [
            (name, thing.where(name), plain(thing.outcome(name)), plain(thing.present_form(name)), thing.history(name))
            for name in thing.traveller_names()
        ]
        return ("house", plain(thing.editions()), travellers, plain(thing.journal()))
    if isinstance(thing, dict):
        return ("dict", [(plain(key), plain(value)) for key, value in thing.items()])
    if isinstance(thing, list):
        return ["list"] + [plain(item) for item in thing]
    if isinstance(thing, tuple):
        return ("tuple",) + tuple(plain(item) for item in thing)
    return thing


def spoil(thing):
    """Changes all that can be changed in lists and dicts, however deep they stand."""
    if isinstance(thing, dict):
        for value in thing.values():
            spoil(value)
        thing.clear()
    elif isinstance(thing, (list, tuple)):
        for item in thing:
            spoil(item)
        if isinstance(thing, list):
            thing.clear()
            thing.append("spoiled")


class Case(unittest.TestCase):
    """A test case that knows exact errors."""

    def raises(self, error, function, *arguments):
        """The call raises exactly this error, which is returned."""
        with self.assertRaises(Exception) as caught:
            function(*arguments)
        self.assertIs(type(caught.exception), error, caught.exception)
        return caught.exception

    def unchanging(self, function, *arguments):
        """Asks twice: no argument is changed, and what is done to the first answer has no effect."""
        kept = plain(list(arguments))
        first = function(*arguments)
        told = plain(first)
        self.assertEqual(plain(list(arguments)), kept)
        spoil(first)
        self.assertEqual(plain(list(arguments)), kept)
        self.assertEqual(plain(function(*arguments)), told)
        self.assertEqual(plain(list(arguments)), kept)

    def raises_unchanged(self, error, function, *arguments):
        """The call raises the error and leaves its arguments as they are."""
        kept = plain(list(arguments))
        self.raises(error, function, *arguments)
        self.assertEqual(plain(list(arguments)), kept)
