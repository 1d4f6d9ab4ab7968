"""Lists of all forms that fit a schema, in the lexicographic order of their outlines."""

from formroads.errors import TooMany
from formroads.forms import form_of, outline_of
from formroads.leafcounts import LeafCounts


def walk_forms(schema, most):
    """Yields every form that fits the schema and has at most `most` leaves."""
    counts = LeafCounts(schema, 0)
    outline = []
    numbers = []
    number = 0
    yield []
    while True:
        before = outline[-1][1] if outline else ()
        found = counts.numbered_leaf(before, number, 0) if len(outline) < most else None
        if found is not None:
            outline.append(found[0])
            numbers.append(number)
            number = 0
            yield form_of(outline)
        elif outline:
            outline.pop()
            number = numbers.pop() + 1
        else:
            return


def count_forms(schema, most):
    """The number of forms that `walk_forms` yields."""
    return LeafCounts(schema, most).outline_count(most)


def form_number(schema, most, form):
    """The position of the form among those that `walk_forms` yields."""
    schema.check(form)
    outline = outline_of(form)
    if len(outline) > most:
        raise TooMany("the form has too many leaves")
    counts = LeafCounts(schema, most)
    number = 0
    before = ()
    left = most
    for leaf in outline:
        left = left - 1
        # The outline that ends before this leaf comes before all that go on.
        number = number + 1 + counts.leaf_number(before, leaf, left)
        before = leaf[1]
    return number


def numbered_form(schema, most, number):
    """The form that has this position among those that `walk_forms` yields."""
    counts = LeafCounts(schema, most)
    if number >= counts.outline_count(most):
        raise TooMany("there are not so many forms")
    outline = []
    before = ()
    left = most
    while number > 0:
        left = left - 1
        leaf, number = counts.numbered_leaf(before, number - 1, left)
        outline.append(leaf)
        before = leaf[1]
    return form_of(outline)
