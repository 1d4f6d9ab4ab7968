"""Notes of ways and of roads (points 76 and 77)."""

import itertools
import random

from formroads.errors import InvalidForm, InvalidNote, NotJoined, Stopped, Unreached
from formroads.roads import run_road
from formroads.rules import Rules
from formroads.waynotes import bring_back, bring_back_road, road_notes, way_count, way_note
from formroads.ways import Way
from tests.kindsamples import ALL_RECORDS, plain_cross, plain_led, plain_members, values_of
from tests.roadsamples import (
    SMALL, forms_of, plain_road, plain_send, sample_schema, sampled, schema_over, some_road, some_schema, some_way,
)
from tests.samples import Case

DAYS = [("day", number) for number in range(3)]
JUNE, JULY = ("month", 0), ("month", 1)
DEEP = sample_schema(((0,), (1,)), ("day", "?"))
FLAT = sample_schema(((0, 1),), ("month", "month"))
JOIN = Way("join", "red", DEEP, FLAT, [("unnest", 0)])


def plain_value_note(records, way, form):
    """The digits of the values of a form at the border of the way."""
    behind = plain_cross(records, form, way.start.shape, way.end.kinds)
    note, kinds, targets = [], [], []

    def descend(table, level):
        for _, inner in table:
            kinds.extend(way.start.kinds[column] for column in way.start.shape[level])
            targets.extend(way.end.kinds[column] for column in way.start.shape[level])
            descend(inner, level + 1)

    descend(form, 0)
    for kind, target, value, led in zip(kinds, targets, values_of(form), values_of(behind)):
        found = [member for member in plain_members(records, kind) if plain_led(records, member, target) == led]
        if len(found) > 1:
            note.append(found.index(value))
    return note


class SmallWaysTest(Case):
    def test_notes_bring_forms_back(self):
        for number, records in enumerate(ALL_RECORDS + [SMALL]):
            chance = random.Random(number)
            for _ in range(25):
                way = some_way(chance, records, some_schema(chance, records, chance.randint(1, 3), ruled=True), 3)
                most = 2 if len(way.start.kinds) < 3 else 1
                for form in sampled(chance, forms_of(records, way.start, most), 8):
                    self.check_form(records, way, form)
                    self.check_form(records, way, form + form)

    def check_form(self, records, way, form):
        result = plain_send(records, way, form)
        if result is None:
            self.assertEqual(self.raises(Stopped, way_note, way, form).label, way.label)
            return
        note = way_note(way, form)
        self.assertIsInstance(note, tuple)
        self.assertEqual(note[0], plain_value_note(records, way, form))
        self.assertEqual(bring_back(way, result, note), form)
        values, branches = note
        for wrong in (
            (values + [0], branches), (values, branches + [0]), (values[:-1] if values else [1], branches),
            (values, branches[:-1] if branches else [1]), ([digit + 20 for digit in values] + [0], branches),
            (values, [digit - 9 for digit in branches] or [0]),
        ):
            self.raises(InvalidNote, bring_back, way, result, wrong)

    def test_all_forms_of_a_result(self):
        chance = random.Random(76)
        for records in (SMALL, ALL_RECORDS[1], ALL_RECORDS[3]):
            for _ in range(16):
                way = some_way(chance, records, some_schema(chance, records, 2), 3)
                found = {}
                for form in forms_of(records, way.start, 2):
                    found.setdefault(repr(plain_send(records, way, form)), []).append(form)
                for result in sampled(chance, forms_of(records, way.end, 2), 40):
                    self.check_result(way, result, found.get(repr(result), []))

    def check_result(self, way, result, forms):
        self.assertEqual(way_count(way, result), len(forms))
        notes = [way_note(way, form) for form in forms]
        for number, note in enumerate(notes):
            self.assertEqual(bring_back(way, result, note), forms[number])
            self.assertNotIn(note, notes[:number])
        if not forms:
            self.raises(Unreached, bring_back, way, result, ([], []))
        for note in itertools.product(([], [0], [0, 1], [1, 0, 1]), ([], [1], [2])):
            if forms and note not in notes:
                self.raises(InvalidNote, bring_back, way, result, note)

    def test_roads_by_chance(self):
        for number, records in enumerate(ALL_RECORDS + [SMALL]):
            chance = random.Random(number)
            for _ in range(25):
                ways = some_road(chance, records, some_schema(chance, records, 2), chance.randint(1, 3))
                for form in sampled(chance, forms_of(records, ways[0].start, 2), 12):
                    self.check_road(records, ways, form)

    def check_road(self, records, ways, form):
        outcome, result = plain_road(records, ways, form)
        if outcome == "stopped":
            self.assertEqual(self.raises(Stopped, road_notes, ways, form).label, result)
            return
        notes = road_notes(ways, form)
        arriving = form
        for way, note in zip(ways, notes):
            self.assertEqual(note, way_note(way, arriving))
            arriving = way.send(arriving)
        self.assertEqual(len(notes), len(ways))
        self.assertEqual(bring_back_road(ways, result, notes), form)
        for wrong in (notes[1:], notes + notes[:1], [], notes + [([], [])]):
            self.raises(InvalidNote, bring_back_road, ways, result, wrong)


class NotesTest(Case):
    def test_by_hand(self):
        form = [((DAYS[0],), [((DAYS[1],), []), ((JUNE,), [])]), ((DAYS[1],), [((DAYS[2],), [])])]
        result = [((JUNE, JUNE), []), ((JUNE, JUNE), []), ((JUNE, JULY), [])]
        self.assertEqual(JOIN.send(form), result)
        # The sources of a June are itself and two days, but in the first column only the days.
        self.assertEqual(way_note(JOIN, form), ([0, 2, 0, 1, 1], [1, 0]))
        self.assertEqual(bring_back(JOIN, result, ([0, 2, 0, 1, 1], [1, 0])), form)
        # Two rows of level 1 with three sources and one with two; one to three rows of level 0 with two each.
        self.assertEqual(way_count(JOIN, result), 3 * 3 * 2 * 2 * (2 + 1) * (2 + 1))

    def test_fewer_rows_have_fewer_values(self):
        # The number of digits for values depends on the branches that the note chooses.
        result = [((JUNE, JUNE), []), ((JUNE, JUNE), [])]
        for note in (([0, 0, 0], [1]), ([0, 0, 0, 0], [0])):
            self.assertEqual(way_note(JOIN, bring_back(JOIN, result, note)), note)
        for note in (([0, 0, 0], [0]), ([0, 0, 0, 0], [1]), ([0, 0, 0], []), ([], [])):
            self.raises_unchanged(InvalidNote, bring_back, JOIN, result, note)

    def test_the_empty_form(self):
        self.assertEqual(way_note(JOIN, []), ([], []))
        self.assertEqual(bring_back(JOIN, [], ([], [])), [])
        self.assertEqual(way_count(JOIN, []), 1)
        self.raises(InvalidNote, bring_back, JOIN, [], ([0], []))
        self.raises(InvalidNote, bring_back, JOIN, [], ([], [0]))
        self.assertEqual(road_notes([JOIN], []), [([], [])])
        self.assertEqual(bring_back_road([JOIN], [], [([], [])]), [])

    def test_results_of_no_form(self):
        early = schema_over([("year", 2, None, ()), ("half", 2, "year", (1, 1))], ((0,), (1,)), ("half", "half"))
        way = Way("go", "red", early, early.with_kinds(("year", "half")))
        no_source = [((("year", 0),), [((("half", 0),), [])]), ((("year", 1),), [])]
        parts = Way("part", "red", sample_schema(((0, 1),), ("day", "day")), sample_schema(((0,), (1,)), ("day", "day")), [
            ("nest", 0, (1,))])
        no_path = [((DAYS[0],), [])]
        no_choice = [((DAYS[0],), [((DAYS[0],), [])])] * 2
        for each, result in ((way, no_source), (parts, no_path), (parts, no_choice)):
            self.assertEqual(way_count(each, result), 0)
            # Whatever the note is.
            for note in (([], []), ([7], [7]), ([0, 0, 0], [0])):
                self.raises_unchanged(Unreached, bring_back, each, result, note)
            self.raises_unchanged(Unreached, bring_back_road, [each], result, [([7], [7])])

    def test_results_that_do_not_fit(self):
        for result in ([((DAYS[0], JUNE), [])], [((JUNE,), [])], [((JUNE, JUNE), [((JUNE,), [])])],
                       [((JUNE, JUNE), []), ((JUNE, ("month", 2)), [])]):
            self.raises_unchanged(InvalidForm, way_count, JOIN, result)
            self.raises_unchanged(InvalidForm, bring_back, JOIN, result, ([7], [7]))
            self.raises_unchanged(InvalidForm, bring_back_road, [JOIN], result, [([7], [7])])
            self.raises_unchanged(InvalidNote, bring_back_road, [JOIN], result, [])
        # Beside a value without a source.
        early = schema_over([("year", 2, None, ()), ("half", 2, "year", (1, 1))], ((0, 1),), ("half", "half"))
        way = Way("go", "red", early, early.with_kinds(("year", "half")))
        result = [((("year", 0), ("half", 0)), []), ((("year", 0), ("year", 0)), [])]
        self.raises(InvalidForm, bring_back, way, result, ([], []))
        self.raises(InvalidForm, way_count, way, result)

    def test_rules_are_not_used(self):
        deep, flat = DEEP.with_rules(Rules((0,), (0, 1))), FLAT.with_rules(Rules((), (0,)))
        way = Way("join", "red", deep, flat, [("unnest", 0)])
        form = [((DAYS[0],), [((JUNE,), []), ((JUNE,), [])]), ((DAYS[0],), [((JUNE,), [])])]
        self.assertEqual(bring_back(way, way.send(form), way_note(way, form)), form)
        self.assertEqual(way_count(way, way.send(form)), way_count(JOIN, JOIN.send(form)))

    def test_hollow_leaves(self):
        stay = Way("stay", "red", DEEP, DEEP.with_kinds(("month", "?")))
        form = [((DAYS[1],), []), ((DAYS[0],), [((JUNE,), [])])]
        self.assertEqual(way_note(stay, form), ([1, 0], []))
        self.assertEqual(bring_back(stay, stay.send(form), ([1, 0], [])), form)
        self.assertEqual(self.raises(Stopped, way_note, JOIN, form).label, "red")

    def test_many_leaves(self):
        result = [((JUNE, JUNE), [])] * 100
        self.assertEqual(way_count(JOIN, result), 6 * (3 * 2 + 3) ** 99)

    def test_the_first_way_that_stops(self):
        gate = Way("gate", "blue", DEEP, DEEP.with_kinds(("day", "size")))
        on = Way("on", "red", gate.end, sample_schema(((0, 1),), ("day", "size")), [("unnest", 0)])
        self.assertEqual(self.raises(Stopped, road_notes, [gate, on], [((DAYS[0],), [])]).label, "red")
        form = [((DAYS[0],), []), ((DAYS[0],), [((JUNE,), [])])]
        self.assertEqual(self.raises(Stopped, road_notes, [gate, on], form).label, "blue")


class RoadErrorsTest(Case):
    def test_lists_that_are_no_roads(self):
        for ways in ([], [JOIN, JOIN], [JOIN, Way("on", "red", FLAT.with_rules(Rules((), (0,))), FLAT)]):
            for form in ([], [((("size", 0),), [])]):
                self.raises_unchanged(NotJoined, road_notes, ways, form)
                for notes in ([], [([7], [7])] * len(ways)):
                    self.raises_unchanged(NotJoined, bring_back_road, ways, form, notes)

    def test_over_several_ways(self):
        # The last way leads a form to the result, but the first way leads none to that form.
        day, both = sample_schema(((0,),), ("day",)), sample_schema(((0,),), ("?",))
        month = sample_schema(((0,),), ("month",))
        ways = [Way("a", "a", day, both), Way("b", "b", both, month)]
        self.assertEqual(bring_back_road(ways, [((JUNE,), [])], [([], []), ([2], [])]), [((DAYS[1],), [])])
        self.raises(Unreached, bring_back_road, ways, [((JUNE,), [])], [([], []), ([0], [])])
        self.raises(InvalidNote, bring_back_road, ways, [((JUNE,), [])], [([], []), ([3], [])])
        self.raises(InvalidNote, bring_back_road, ways, [((JUNE,), [])], [([0], []), ([2], [])])
        self.assertEqual(run_road(ways, [((DAYS[1],), [])]), ("through", [((JUNE,), [])]))


class FreshnessTest(Case):
    def test_answers_and_arguments(self):
        form = [((DAYS[0],), [((DAYS[1],), []), ((JUNE,), [])]), ((DAYS[1],), [((DAYS[2],), [])])]
        result = JOIN.send(form)
        self.unchanging(way_note, JOIN, form)
        self.unchanging(bring_back, JOIN, result, way_note(JOIN, form))
        self.unchanging(way_count, JOIN, result)
        self.unchanging(road_notes, [JOIN], form)
        self.unchanging(bring_back_road, [JOIN], result, road_notes([JOIN], form))
        stay = Way("stay", "red", DEEP, DEEP)
        self.unchanging(bring_back, stay, form, ([], []))
        self.unchanging(bring_back_road, [stay, stay], form, [([], []), ([], [])])
        self.raises_unchanged(Stopped, way_note, JOIN, form + [((DAYS[0],), [])])
        self.raises_unchanged(Stopped, road_notes, [JOIN], form + [((DAYS[0],), [])])
