"""Roads (points 68 and 69)."""

import random

from formroads.errors import NotJoined
from formroads.roads import check_road, run_early, run_late, run_road
from formroads.rules import Rules
from formroads.ways import Way
from tests.kindsamples import ALL_RECORDS
from tests.roadsamples import (
    SMALL, forms_of, plain_early, plain_late, plain_road, sample_schema, sampled, some_road, some_schema,
)
from tests.samples import Case

DAY, SIZE = ("day", 0), ("size", 1)


def two_orders():
    """Roads on which the order of borders and steps matters."""
    deep = sample_schema(((0,), (1,)), ("?", "?"))
    flat = sample_schema(((0, 1),), ("?", "?"))
    told = sample_schema(((0, 1),), ("?", "day"))
    nested = sample_schema(((0,), (1,)), ("month", "day"))
    first = Way("first", "red", deep, flat, [("unnest", 0)])
    second = Way("second", "blue", flat, told)
    third = Way("third", "green", told, nested, [("nest", 0, (1,))])
    return [first, second, third]


class OutcomesTest(Case):
    def check_form(self, records, ways, form):
        self.assertEqual(run_road(ways, form), plain_road(records, ways, form))
        self.assertEqual(run_early(ways, form), plain_early(records, ways, form))
        self.assertEqual(run_late(ways, form), plain_late(records, ways, form))

    def test_by_chance(self):
        for number, records in enumerate(ALL_RECORDS + [SMALL]):
            chance = random.Random(number)
            for _ in range(50):
                ways = some_road(chance, records, some_schema(chance, records, chance.randint(1, 3)), chance.randint(1, 4))
                most = 2 if len(ways[0].start.kinds) < 3 else 1
                for form in sampled(chance, forms_of(records, ways[0].start, most), 15):
                    self.check_form(records, ways, form)

    def test_the_order_of_the_work(self):
        ways = two_orders()
        hollow = [((DAY,), [])]
        self.assertEqual(run_road(ways, hollow), ("stopped", "red"))
        # A value that the third border stops, beside a hollow leaf that the first steps stop.
        form = [((SIZE,), [])]
        self.assertEqual(run_road(ways, form), ("stopped", "red"))
        self.assertEqual(run_early(ways, form), ("stopped", "green"))
        self.assertEqual(run_late(ways, form), ("stopped", "red"))
        form = [((DAY,), [((SIZE,), [])]), ((SIZE,), [])]
        self.assertEqual(run_early(ways, form), ("stopped", "blue"))
        self.assertEqual(run_late(ways, form), ("stopped", "red"))
        # Nesting before or behind a border that leads two days to one month.
        form = [((("day", 0),), [((DAY,), [])]), ((("day", 1),), [((DAY,), [])])]
        month = ("month", 0)
        self.assertEqual(run_road(ways, form), ("through", [((month,), [((DAY,), []), ((DAY,), [])])]))
        self.assertEqual(run_early(ways, form), ("through", [((month,), [((DAY,), []), ((DAY,), [])])]))
        self.assertEqual(run_late(ways, form), ("through", [((month,), [((DAY,), [])]), ((month,), [((DAY,), [])])]))

    def test_the_empty_form(self):
        for function in (run_road, run_early, run_late):
            self.assertEqual(function(two_orders(), []), ("through", []))

    def test_rules_are_not_used(self):
        schema = sample_schema(((0,), (1,)), ("day", "size"), Rules((0,), (0, 1)))
        form = [((DAY,), []), ((DAY,), [])]
        for function in (run_road, run_early, run_late):
            self.assertEqual(function([Way("go", "red", schema, schema)] * 2, form), ("through", form))


class CheckRoadTest(Case):
    def test_roads(self):
        first, second, third = two_orders()
        for ways in ([first], [first, second], [second, third], [first, second, third], (first, second)):
            self.assertIsNone(check_road(ways))

    def test_lists_that_are_no_roads(self):
        first, second, third = two_orders()
        ruled = Way("other", "red", second.end.with_rules(Rules((), (0,))), second.end)
        kinds = Way("other", "red", second.end.with_kinds(("?", "?")), second.end)
        form = [((SIZE,), [((SIZE, SIZE), [])])]
        for ways in ([], [first, third], [second, first], [first, first], [first, second, second], [second, ruled],
                     [second, kinds], [first, second, third, third]):
            self.raises_unchanged(NotJoined, check_road, ways)
            for function in (run_road, run_early, run_late):
                # Before anything else, whatever the form is.
                self.raises_unchanged(NotJoined, function, ways, form)
                self.raises_unchanged(NotJoined, function, ways, [])


class FreshnessTest(Case):
    def test_answers_and_arguments(self):
        schema = sample_schema(((0,), (1,)), ("?", "day"))
        form = [((DAY,), [((DAY,), []), ((DAY,), [])]), ((SIZE,), [])]
        for function in (run_road, run_early, run_late):
            self.unchanging(function, [Way("go", "red", schema, schema)], form)
            self.unchanging(function, two_orders(), form)
            self.unchanging(function, two_orders(), form[:1])
        self.unchanging(check_road, two_orders())
