"""Which rules results obey (point 85)."""

import random

from formroads.errors import InvalidSchema, RuleLost
from formroads.joining import road_summary, still, way_summary
from formroads.keeping import kept_rules, lost_rule
from formroads.reordering import early, late
from formroads.rules import Rules
from formroads.ways import Way
from formroads.webs import Web
from tests.kindsamples import ALL_RECORDS, CHAIN
from tests.roadsamples import SMALL, forms_of, sample_schema, some_road, some_schema
from tests.samples import Case, all_rules, plain_obeys, plain_outline
from tests.test_stops import BITS


def passing_forms(summary, forms):
    """The forms that fit the start schema and are not stopped, each with its result."""
    found = []
    for form in forms:
        if summary.start.fits(form):
            outcome, result = summary(form)
            if outcome == "through":
                found.append((form, result))
    return found


class SmallSummariesTest(Case):
    def check_summary(self, summary, forms):
        results = [result for _, result in passing_forms(summary, forms)]
        possible = Rules(range(summary.end.last), range(summary.end.last + 1)).named()
        kept = [rule for rule in possible if all(plain_obeys(result, rule) for result in results)]
        self.assertEqual(kept_rules(summary).named(), kept)
        for rules in all_rules(summary.end.shape):
            self.check_lost(summary, rules, [rule for rule in rules.named() if rule not in kept])
        return len(possible) - len(kept)

    def check_lost(self, summary, rules, lost):
        found = lost_rule(summary, rules)
        if not lost:
            self.assertIsNone(found)
            return
        self.assertIsInstance(found, tuple)
        rule, form = found
        self.assertEqual(rule, lost[0])
        self.assertTrue(summary.start.fits(form))
        self.assertIn(len(plain_outline(form)), (1, 2))
        outcome, result = summary(form)
        self.assertEqual(outcome, "through")
        self.assertFalse(plain_obeys(result, rule))

    def test_by_chance(self):
        lost = []
        for number, (records, count) in enumerate(
            ((SMALL, 1), (SMALL, 2), (BITS, 2), (BITS, 3), (CHAIN, 2), (BITS, 3), (SMALL, 2)),
        ):
            chance = random.Random(number)
            for _ in range(30):
                start = some_schema(chance, records, count, ruled=True)
                summary = road_summary(some_road(chance, records, start, chance.randint(1, 3)))
                forms = forms_of(records, start, 2)
                lost.append(self.check_summary(summary, forms))
                self.check_summary(chance.choice((early, late))(summary), forms)
        self.assertGreater(lost.count(0), 10)
        self.assertGreater(len([number for number in lost if number > 1]), 10)

    def test_still(self):
        for records in ALL_RECORDS[3:]:
            chance = random.Random(1)
            for _ in range(20):
                schema = some_schema(chance, records, 2, ruled=True)
                self.check_summary(still(schema), forms_of(records, schema, 2))

    def test_three_leaves(self):
        chance = random.Random(5)
        for _ in range(30):
            start = some_schema(chance, BITS, 2, ruled=True)
            summary = road_summary(some_road(chance, BITS, start, chance.randint(1, 3)))
            for rule in kept_rules(summary).named():
                for form, result in passing_forms(summary, forms_of(BITS, start, 3)):
                    self.assertTrue(plain_obeys(result, rule), (form, rule))


class LostRuleTest(Case):
    def setUp(self):
        self.flat = sample_schema(((0, 1),), ("day", "?"))
        self.deep = sample_schema(((0,), (1,)), ("day", "?"))

    def test_by_hand(self):
        nest = way_summary(Way("go", "red", self.flat, self.deep, [("nest", 0, (1,))]))
        self.assertEqual(kept_rules(nest).named(), [("full", 0), ("parted", 0)])
        self.assertIsNone(lost_rule(nest, Rules((0,), (0,))))
        rule, form = lost_rule(nest, Rules((0,), (0, 1)))
        self.assertEqual(rule, ("parted", 1))
        self.assertEqual(form[0], form[1])
        # If the rows of the start differ, the nested ones do.
        parted = self.flat.with_rules(Rules((), (0,)))
        nest = way_summary(Way("go", "red", parted, self.deep, [("nest", 0, (1,))]))
        self.assertEqual(kept_rules(nest).named(), [("full", 0), ("parted", 0), ("parted", 1)])
        # But not behind a border that leads two of their values to one.
        month = self.deep.with_kinds(("month", "?"))
        nest = way_summary(Way("go", "red", parted, month, [("nest", 0, (1,))]))
        self.assertEqual(kept_rules(nest).named(), [("full", 0), ("parted", 0)])

    def test_the_order_of_named(self):
        summary = still(self.deep)
        self.assertEqual(lost_rule(summary, Rules((0,), (0, 1)))[0], ("full", 0))
        self.assertEqual(lost_rule(summary, Rules((), (1, 0)))[0], ("parted", 0))
        self.assertEqual(lost_rule(summary, Rules((), (1,)))[0], ("parted", 1))
        self.assertIsNone(lost_rule(summary, Rules()))

    def test_rules_of_the_start(self):
        for rules in all_rules(self.deep.shape):
            self.assertEqual(kept_rules(still(self.deep.with_rules(rules))), rules)

    def test_nothing_passes(self):
        kinds = [sample_schema(((0,), (1,)), (kind, "?")) for kind in ("day", "?", "size")]
        summary = road_summary([Way("a", "a", kinds[0], kinds[1]), Way("b", "b", kinds[1], kinds[2])])
        self.assertIsNone(lost_rule(summary, Rules((0,), (0, 1))))
        self.assertEqual(kept_rules(summary), Rules((0,), (0, 1)))

    def test_hollow_leaves_alone(self):
        kinds = [sample_schema(((1,), (0,), (2,)), (kind, "?", "day")) for kind in ("day", "?", "size")]
        summary = road_summary([Way("a", "a", kinds[0], kinds[1]), Way("b", "b", kinds[1], kinds[2])])
        self.assertEqual(kept_rules(summary), Rules((1,), (1, 2)))
        self.assertEqual(lost_rule(summary, Rules((0, 1)))[1][0][1], [])
        rule, form = lost_rule(summary, Rules((1,), (0, 1, 2)))
        self.assertEqual(rule, ("parted", 0))
        self.assertEqual(form[0], form[1])

    def test_levels_that_the_end_does_not_have(self):
        summary = way_summary(Way("go", "red", self.flat, self.deep, [("nest", 0, (1,))]))
        for rules in (Rules((1,)), Rules((0, 2)), Rules((), (2,)), Rules((0,), (0, 5)), Rules((-1,)), Rules((), (-1,))):
            self.raises_unchanged(InvalidSchema, lost_rule, summary, rules)
        self.raises(InvalidSchema, lost_rule, way_summary(Way("go", "red", self.deep, self.flat, [("unnest", 0)])),
                    Rules((0,)))
        # The levels of the start do not matter, and neither does what comes through.
        kinds = [sample_schema(((0,),), (kind,)) for kind in ("day", "?", "size")]
        nothing = road_summary([Way("a", "a", kinds[0], kinds[1]), Way("b", "b", kinds[1], kinds[2])])
        self.raises(InvalidSchema, lost_rule, nothing, Rules((), (1,)))

    def test_the_error_of_a_web(self):
        web = Web.of(self.flat.book, [("a", self.flat), ("b", self.flat.with_rules(Rules((), (0,))))], [])
        error = self.raises(RuleLost, web.with_way, "go", "red", "a", "b", [])
        self.assertEqual(error.rule, ("parted", 0))


class FreshnessTest(Case):
    def test_answers_and_arguments(self):
        chance = random.Random(8)
        for _ in range(20):
            summary = road_summary(some_road(chance, SMALL, some_schema(chance, SMALL, 3, ruled=True), 2))
            self.unchanging(kept_rules, summary)
            self.unchanging(lost_rule, summary, Rules(range(summary.end.last), range(summary.end.last + 1)))
