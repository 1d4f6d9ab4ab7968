"""How summaries are joined (points 73 and 75)."""

import random

from formroads.errors import NotJoined
from formroads.joining import joined, road_summary, still, way_summary
from formroads.rules import Rules
from formroads.summaries import Summary
from formroads.ways import Way
from tests.kindsamples import ALL_RECORDS
from tests.roadsamples import (
    SMALL, forms_of, plain_road, sample_schema, sampled, some_road, some_schema, some_way,
)
from tests.samples import Case
from tests.test_summaries import plain_facts


class StillTest(Case):
    def test_facts(self):
        schema = sample_schema(((2,), (0, 1), (3,)), ("day", "?", "size", "?"), Rules((1,), (2,)))
        told = (((2,), (0, 1), (3,)), ("day", "?", "size", "?"), (1,), (2,))
        passages = (
            ("day", "day", 0, None, 0, "day", 0), ("?", "?", 0, None, 0, None, 0),
            ("size", "size", 0, None, 0, "size", 0), ("?", "?", 0, None, 0, None, 0))
        self.assertEqual(still(schema).facts(), (told, told, passages, (), (0, 0), (1, 2), ((None,) * 4,) * 2))
        self.assertIsInstance(still(schema), Summary)

    def test_all_forms_stay(self):
        for number, records in enumerate(ALL_RECORDS):
            chance = random.Random(number)
            schema = some_schema(chance, records, 2)
            for form in sampled(chance, forms_of(records, schema, 2), 40):
                self.assertEqual(still(schema)(form), ("through", form))

    def test_joining_with_still_changes_nothing(self):
        for number, records in enumerate(ALL_RECORDS + [SMALL]):
            chance = random.Random(number)
            for _ in range(60):
                start = some_schema(chance, records, chance.randint(1, 4), ruled=True)
                summary = road_summary(some_road(chance, records, start, chance.randint(1, 4)))
                self.assertEqual(joined(still(summary.start), summary).facts(), summary.facts())
                self.assertEqual(joined(summary, still(summary.end)).facts(), summary.facts())
                self.assertEqual(joined(still(start), still(start)).facts(), still(start).facts())


class SplitTest(Case):
    def test_by_chance(self):
        for number, records in enumerate(ALL_RECORDS + [SMALL]):
            chance = random.Random(number)
            for _ in range(40):
                start = some_schema(chance, records, chance.randint(1, 4), ruled=True)
                self.check_road(chance, some_road(chance, records, start, chance.randint(2, 6)))

    def check_road(self, chance, ways):
        facts = plain_facts(ways)
        self.assertEqual(road_summary(ways).facts(), facts)
        for at in range(1, len(ways)):
            first, second = road_summary(ways[:at]), road_summary(ways[at:])
            self.assertEqual(joined(first, second).facts(), facts)
        # However it is split: in parts of parts.
        parts = [way_summary(way) for way in ways]
        while len(parts) > 1:
            at = chance.randrange(len(parts) - 1)
            parts[at:at + 2] = [joined(parts[at], parts[at + 1])]
        self.assertEqual(parts[0].facts(), facts)

    def test_long_roads_have_few_ranks(self):
        chance = random.Random(9)
        for _ in range(20):
            ways = some_road(chance, SMALL, some_schema(chance, SMALL, 3), 30)
            summary = road_summary(ways)
            self.assertEqual(summary.facts(), plain_facts(ways))
            self.assertLessEqual(len(summary.labels), 2 * 3 + summary.start.last)
            for form in sampled(chance, forms_of(SMALL, ways[0].start, 1), 10):
                self.assertEqual(summary(form + form), plain_road(SMALL, ways, form + form))

    def test_ranks_are_numbered_anew(self):
        schemas = [sample_schema(((0, 1),), kinds) for kinds in (("?", "?"), ("?", "day"), ("?", "?"), ("size", "?"))]
        ways = [
            Way("way", label, first, second) for label, first, second in zip(("a", "b", "c"), schemas, schemas[1:])]
        first, second = road_summary(ways[:2]), road_summary(ways[2:])
        self.assertEqual((first.labels, second.labels), (("a",), ("c",)))
        whole = joined(first, second)
        self.assertEqual(whole.labels, ("a", "c"))
        self.assertEqual([passage.facts()[2:] for passage in whole.passages], [
            (2, "size", 2, "size", 0), (2, "day", 1, "day", 0)])
        # A rank of the second road at which no value arrives any more is left out.
        start, end = sample_schema(((0,),), ("day",)), sample_schema(((0,),), ("?",))
        gate = Way("gate", "gate", end, sample_schema(((0,),), ("month",)))
        self.assertEqual(way_summary(gate).labels, ("gate",))
        whole = joined(way_summary(Way("a", "a", start, end)), way_summary(gate))
        self.assertEqual(whole.facts()[2:4], ((("day", "month", 0, None, 0, "month", 0),), ()))


class ErrorsTest(Case):
    def test_not_joined(self):
        flat = sample_schema(((0, 1),), ("day", "?"))
        deep = sample_schema(((0,), (1,)), ("day", "?"))
        way = Way("go", "red", flat, deep, [("nest", 0, (1,))])
        for other in (flat, deep.with_kinds(("?", "?")), deep.with_rules(Rules((0,))), deep.with_rules(Rules((), (1,))),
                      sample_schema(((1,), (0,)), ("day", "?"))):
            self.raises_unchanged(NotJoined, joined, way_summary(way), still(other))
            self.raises_unchanged(NotJoined, road_summary, [way, Way("on", "red", other, other)])
        self.raises(NotJoined, joined, still(deep), way_summary(way))
        self.raises(NotJoined, road_summary, [])
        self.raises(NotJoined, road_summary, [way, way])

    def test_way_and_road(self):
        chance = random.Random(1)
        for _ in range(50):
            way = some_way(chance, SMALL, some_schema(chance, SMALL, 3, ruled=True), 4)
            self.assertEqual(way_summary(way).facts(), plain_facts([way]))
            self.assertEqual(road_summary([way]).facts(), plain_facts([way]))
            self.assertEqual(road_summary((way,)).facts(), plain_facts([way]))


class FreshnessTest(Case):
    def test_answers_and_arguments(self):
        chance = random.Random(2)
        for _ in range(10):
            ways = some_road(chance, SMALL, some_schema(chance, SMALL, 3), 3)
            self.unchanging(road_summary, ways)
            self.unchanging(way_summary, ways[0])
            self.unchanging(joined, way_summary(ways[0]), road_summary(ways[1:]))
            self.unchanging(still, ways[0].start)
