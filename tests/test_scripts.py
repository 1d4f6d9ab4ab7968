"""Short scripts and scripts that do the same (points 39 and 40)."""

import itertools

from formroads.errors import EmptyTable, InvalidRegrouping, InvalidShape, NotJoined
from formroads.kinds import Kindbook
from formroads.regroupings import Regrouping
from formroads.rules import Rules
from formroads.schemas import Schema
from formroads.scripts import regroupings_between, script_difference, short_script, shortest_script
from tests.samples import (
    Case, all_regroupings, all_rules, all_shapes, all_steps, bit_forms, bit_schema, plain_cuts, plain_depths, plain_obeys,
    plain_outline, plain_shape, sample_book,
)
from tests.test_shapes import NO_SHAPES


def fewest_steps(shape):
    """For each regrouping that a script has, its shape after and depths with the least number of steps."""
    found = {(shape, tuple(range(1, len(shape)))): 0}
    latest = list(found)
    while latest:
        further = []
        for after, depths in latest:
            for step in all_steps(after):
                level = step[1]
                if step[0] == "nest":
                    changed = depths[:level] + ((depths[level - 1] if level else 0),) + depths[level:]
                else:
                    changed = depths[:level] + depths[level + 1:]
                key = (plain_shape(after, step), changed)
                if key not in found:
                    found[key] = found[(after, depths)] + 1
                    further.append(key)
        latest = further
    return found


def plain_short(regrouping):
    """The short script by the words of point 39: cuts are put in and taken out of a list of cuts."""
    before, after = plain_cuts(regrouping.before), plain_cuts(regrouping.after)
    columns = tuple(range(sum(map(len, regrouping.before))))
    kept = [cut for v, cut in enumerate(before, start=1) for end, s in zip(after, regrouping.depths) if (cut, v) == (end, s)]
    chain, steps = list(before), []
    for v in range(len(regrouping.before) - 1, -1, -1):
        for cut, depth in zip(after, regrouping.depths):
            if depth == v and cut not in kept:
                larger = [other for other in chain if set(cut) < set(other)] + [columns]
                level = len(chain) - len(larger) + 1
                steps.append(("nest", level, tuple(column for column in larger[0] if column not in cut)))
                chain.insert(level, cut)
        if v >= 1 and before[v - 1] not in kept:
            steps.append(("unnest", chain.index(before[v - 1])))
            chain.remove(before[v - 1])
    return steps


class ShortScriptTest(Case):
    def test_by_hand(self):
        shape = ((0,), (1,), (2,))
        cases = [
            (Regrouping.identity(shape), []),
            (Regrouping(shape, ((0, 1, 2),), ()), [("unnest", 1), ("unnest", 0)]),
            (Regrouping(((0, 1, 2),), shape, (0, 0)), [("nest", 0, (1, 2)), ("nest", 1, (2,))]),
            (Regrouping(shape, ((1,), (0,), (2,)), (0, 2)), [("unnest", 0), ("nest", 0, (0,))]),
            (Regrouping(shape, shape, (0, 0)), [
                ("unnest", 1), ("unnest", 0), ("nest", 0, (1, 2)), ("nest", 1, (2,))]),
            (Regrouping(shape, ((0,), (2,), (1,)), (1, 1)), [("unnest", 1), ("nest", 1, (1,))]),
        ]
        for regrouping, steps in cases:
            self.assertEqual(short_script(regrouping), steps)

    def test_three_columns(self):
        for shape in [shape for count in (1, 2, 3) for shape in all_shapes(count)]:
            fewest = fewest_steps(shape)
            for regrouping in self.from_shape(shape):
                self.check_script(regrouping, fewest)

    def test_four_columns(self):
        for shape in all_shapes(4)[::6]:
            fewest = fewest_steps(shape)
            for regrouping in self.from_shape(shape)[::5]:
                self.check_script(regrouping, fewest)

    def from_shape(self, before):
        shapes = all_shapes(sum(map(len, before)))
        return [Regrouping(before, after, depths) for after in shapes for depths in plain_depths(before, after)]

    def check_script(self, regrouping, fewest):
        steps = short_script(regrouping)
        self.assertIsInstance(steps, list)
        self.assertEqual(steps, plain_short(regrouping))
        self.assertTrue(Regrouping.of(regrouping.before, steps) == regrouping)
        self.assertEqual(len(steps), fewest[(regrouping.after, regrouping.depths)])


class RegroupingsBetweenTest(Case):
    def test_all_of_them_in_order(self):
        for count in (1, 2, 3):
            for before, after in itertools.product(all_shapes(count), repeat=2):
                self.check_pair(before, after)
        for before, after in itertools.product(all_shapes(4)[::4], all_shapes(4)[::3]):
            self.check_pair(before, after)

    def check_pair(self, before, after):
        found = list(regroupings_between(before, after))
        self.assertEqual([(each.before, each.after) for each in found], [(before, after)] * len(found))
        self.assertEqual([each.depths for each in found], plain_depths(before, after))

    def test_by_hand(self):
        shape = ((0,), (1,), (2,))
        depths = [each.depths for each in regroupings_between(shape, shape)]
        self.assertEqual(depths, [(0, 0), (0, 1), (0, 2), (1, 1), (1, 2)])
        self.assertEqual([each.depths for each in regroupings_between(shape, ((0, 1, 2),))], [()])
        self.assertEqual([each.depths for each in regroupings_between(((0, 1, 2),), shape)], [(0, 0)])

    def test_errors(self):
        for shape in NO_SHAPES:
            self.raises(InvalidShape, self.walked, shape, ((0,),))
            self.raises(InvalidShape, self.walked, ((0,),), shape)
            self.raises(InvalidShape, self.walked, ((0, 1, 2),), shape)
        for one, other in itertools.permutations((1, 2, 3, 4), 2):
            for before, after in itertools.product(all_shapes(one)[::9], all_shapes(other)[::9]):
                self.raises(InvalidRegrouping, self.walked, before, after)

    def walked(self, before, after):
        return list(regroupings_between(before, after))

    def test_only_the_iteration_raises(self):
        regroupings_between((), ())
        regroupings_between(((0,),), ((0, 1),))


def outcome(regrouping, form):
    try:
        return regrouping(form)
    except EmptyTable:
        return None


class DifferenceTest(Case):
    def test_small_forms(self):
        for before, most in ((((0,), (1,)), 3), (((0, 1),), 3), (((0,), (1,), (2,)), 2), (((0, 2), (1,)), 2)):
            forms = bit_forms(before, most)
            count = sum(map(len, before))
            rows = [(form, [rule for rule in list(all_rules(before))[-1].named() if plain_obeys(form, rule)]) for form in forms]
            for number, after in enumerate(all_shapes(count)):
                regroupings = [Regrouping(before, after, depths) for depths in plain_depths(before, after)]
                for first, second in itertools.product(regroupings, repeat=2):
                    differing = [
                        obeyed for form, obeyed in rows if outcome(first, form) != outcome(second, form)]
                    for rules in list(all_rules(before))[number % 2::2]:
                        differ = any(all(rule in obeyed for rule in rules.named()) for obeyed in differing)
                        self.check_pair(bit_schema(before, rules), first, second, differ)

    def check_pair(self, schema, first, second, differ):
        form = script_difference(schema, first, second)
        self.assertEqual(form is not None, differ)
        if form is not None:
            self.assertTrue(schema.fits(form))
            self.assertLessEqual(len(plain_outline(form)), 2)
            self.assertNotEqual(outcome(first, form), outcome(second, form))

    def test_other_kinds(self):
        shape = ((0,), (1,), (2,))
        for kinds in (("day", "?", "month"), ("?", "size", "day")):
            schema = Schema(sample_book(), shape, kinds, Rules())
            regroupings = [Regrouping(shape, shape, depths) for depths in plain_depths(shape, shape)]
            for first, second in itertools.product(regroupings, repeat=2):
                self.check_pair(schema, first, second, not first == second)

    def test_a_kind_of_one_number(self):
        shape = ((0,), (1,), (2,))
        book = Kindbook([("one", 1, None, ()), ("two", 2, None, ())])
        regroupings = [Regrouping(shape, shape, depths) for depths in plain_depths(shape, shape)]
        for kinds in (("one", "one", "one"), ("two", "one", "one"), ("one", "one", "?")):
            for first, second in itertools.product(regroupings, repeat=2):
                self.check_pair(Schema(book, shape, kinds, Rules((0,))), first, second, not first == second)

    def test_the_conditions(self):
        shape = ((0,), (1,))
        keeps, joins = Regrouping(shape, shape, (1,)), Regrouping(shape, shape, (0,))
        for rules, same in ((Rules(), False), (Rules((0,)), False), (Rules((), (0,)), False), (Rules((0,), (0,)), True),
                            (Rules((0,), (1,)), False), (Rules((0,), (0, 1)), True), (Rules((), (0, 1)), False)):
            self.check_pair(bit_schema(shape, rules), keeps, joins, not same)
            self.check_pair(bit_schema(shape, rules), joins, keeps, not same)

    def test_not_joined(self):
        schema = bit_schema(((0,), (1,)))
        good = Regrouping.identity(((0,), (1,)))
        other_start = Regrouping(((0, 1),), ((0,), (1,)), (0,))
        other_end = Regrouping(((0,), (1,)), ((0, 1),), ())
        self.raises(NotJoined, script_difference, schema, other_start, other_start)
        self.raises(NotJoined, script_difference, schema, good, other_start)
        self.raises(NotJoined, script_difference, schema, other_start, good)
        self.raises(NotJoined, script_difference, schema, good, other_end)
        self.raises(NotJoined, script_difference, schema, other_end, good)
        self.raises(NotJoined, script_difference, schema, Regrouping.identity(((0,),)), Regrouping.identity(((0,),)))
        self.raises(NotJoined, script_difference, schema, Regrouping.identity(((1,), (0,))), good)
        self.assertIsNone(script_difference(schema, good, Regrouping.identity(((0,), (1,)))))


class ShortestScriptTest(Case):
    def test_by_hand(self):
        shape = ((0,), (1,))
        joins = Regrouping(shape, shape, (0,))
        long_script = [("unnest", 0), ("nest", 0, (1,))]
        self.assertEqual(shortest_script(bit_schema(shape), joins), long_script)
        self.assertEqual(shortest_script(bit_schema(shape, Rules((), (0,))), joins), long_script)
        self.assertEqual(shortest_script(bit_schema(shape, Rules((0,), (0,))), joins), [])
        self.assertEqual(shortest_script(bit_schema(shape), Regrouping.identity(shape)), [])

    def test_three_columns(self):
        for before in all_shapes(3):
            fewest = fewest_steps(before)
            for after in all_shapes(3):
                regroupings = [Regrouping(before, after, depths) for depths in plain_depths(before, after)]
                for number, rules in enumerate(all_rules(before)):
                    schema = bit_schema(before, rules)
                    for regrouping in regroupings[number % 2::2]:
                        self.check_script(schema, regrouping, regroupings, fewest)

    def test_four_columns(self):
        shapes = all_shapes(4)
        for before, after in zip(shapes[3::8], shapes[::8]):
            fewest = fewest_steps(before)
            regroupings = [Regrouping(before, after, depths) for depths in plain_depths(before, after)]
            for rules in all_rules(before):
                for regrouping in regroupings[::3]:
                    self.check_script(bit_schema(before, rules), regrouping, regroupings, fewest)

    def check_script(self, schema, regrouping, regroupings, fewest):
        alike = [other for other in regroupings if self.alike(schema.rules, regrouping, other)]
        least = min(fewest[(other.after, other.depths)] for other in alike)
        first = [other for other in alike if fewest[(other.after, other.depths)] == least][0]
        self.assertEqual(shortest_script(schema, regrouping), plain_short(first))

    def alike(self, rules, first, second):
        """The two conditions of point 40."""
        refused = set(first.refused()) ^ set(second.refused())
        levels = [level for a, b in zip(first.depths, second.depths) for level in range(min(a, b), max(a, b))]
        return all(depth in rules.full for depth in refused) and all(level in rules.parted for level in levels)

    def test_not_joined(self):
        schema = bit_schema(((0,), (1,)))
        self.raises(NotJoined, shortest_script, schema, Regrouping(((0, 1),), ((0,), (1,)), (0,)))
        self.raises(NotJoined, shortest_script, schema, Regrouping.identity(((1,), (0,))))
        self.raises(NotJoined, shortest_script, schema, Regrouping.identity(((0,),)))


class FreshnessTest(Case):
    def test_answers(self):
        for regrouping in all_regroupings(2):
            schema = bit_schema(regrouping.before, Rules((), (0,)))
            self.unchanging(short_script, regrouping)
            self.unchanging(shortest_script, schema, regrouping)
            for other in regroupings_between(regrouping.before, regrouping.after):
                self.unchanging(script_difference, schema, regrouping, other)
