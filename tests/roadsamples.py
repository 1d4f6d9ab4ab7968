"""Roads for several tests, and what DOC.md says of them in the plainest words.

The functions that begin with `plain_` use the attributes of ways and schemas only, and the plain functions of the
other samples.
"""

from formroads.kinds import Kindbook
from formroads.rules import Rules
from formroads.schemas import Schema
from formroads.ways import Way
from tests.kindsamples import kinds_of, plain_allowed, plain_cross, plain_members
from tests.samples import all_forms, all_rules, all_shapes, all_steps, plain_script, plain_shape, sample_book

SMALL = [("top", 1, None, ()), ("low", 2, "top", (0, 0)), ("odd", 1, None, ())]
LABELS = ("red", "blue", "green")


def schema_over(records, shape, kinds, rules=None):
    return Schema(Kindbook(records), shape, kinds, rules or Rules())


def sample_schema(shape, kinds, rules=None):
    """A schema over the kind book of the examples."""
    return Schema(sample_book(), shape, kinds, rules or Rules())


def some_schema(chance, records, count, ruled=False):
    """A schema with so many columns by chance."""
    shape = chance.choice(all_shapes(count))
    kinds = [chance.choice(kinds_of(records)) for _ in range(count)]
    rules = chance.choice(list(all_rules(shape))) if ruled else Rules()
    return schema_over(records, shape, kinds, rules)


def some_way(chance, records, start, most_steps=2):
    """A way from the schema by chance; its border is allowed and its steps fit."""
    return way_into(chance, start, some_targets(chance, records, start.kinds), most_steps)


def some_targets(chance, records, kinds):
    """Targets of a border that is allowed for the kinds, by chance."""
    targets = []
    for kind in kinds:
        allowed = [target for target in kinds_of(records) if plain_allowed(records, kind, target)]
        targets.append(chance.choice(allowed + ["?"]))
    return targets


def way_into(chance, start, kinds, most_steps=2):
    """A way from the schema into these kinds, with steps by chance."""
    shape, steps = start.shape, []
    for _ in range(chance.randint(0, most_steps)):
        fitting = list(all_steps(shape))
        if fitting:
            steps.append(chance.choice(fitting))
            shape = plain_shape(shape, steps[-1])
    end = Schema(start.book, shape, kinds, Rules())
    return Way("way", chance.choice(LABELS), start, end, steps)


def some_road(chance, records, start, count):
    """A road of so many ways by chance."""
    ways = []
    for _ in range(count):
        ways.append(some_way(chance, records, ways[-1].end if ways else start))
    return ways


def forms_of(records, schema, most):
    """All forms with the shape and the kinds of the schema and at most so many leaves."""
    return all_forms(schema.shape, [plain_members(records, kind) for kind in schema.kinds], most)


def sampled(chance, items, most):
    """All items, or so many of them by chance."""
    return items if len(items) <= most else chance.sample(items, most)


def plain_send(records, way, form):
    """The form behind a way by the words of point 66, or None if the way stops it."""
    behind = plain_cross(records, form, way.start.shape, way.end.kinds)
    return None if behind is None else plain_script(behind, way.start.shape, way.steps)


def plain_road(records, ways, form):
    """The outcome of a road by the words of point 68."""
    for way in ways:
        form = plain_send(records, way, form)
        if form is None:
            return ("stopped", way.label)
    return ("through", form)


def plain_early(records, ways, form):
    """The outcome by the words of point 69: borders first."""
    for way in ways:
        form = plain_cross(records, form, ways[0].start.shape, way.end.kinds)
        if form is None:
            return ("stopped", way.label)
    return plain_steps(ways, form)


def plain_steps(ways, form):
    for way in ways:
        form = plain_script(form, way.start.shape, way.steps)
        if form is None:
            return ("stopped", way.label)
    return ("through", form)


def plain_late(records, ways, form):
    """The outcome by the words of point 69: steps first."""
    outcome, form = plain_steps(ways, form)
    if outcome == "stopped":
        return (outcome, form)
    for way in ways:
        form = plain_cross(records, form, ways[-1].end.shape, way.end.kinds)
        if form is None:
            return ("stopped", way.label)
    return ("through", form)
