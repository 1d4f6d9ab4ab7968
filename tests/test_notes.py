"""Notes of scripts (points 41 and 47, with 45 and 46)."""

import copy

from formroads.errors import EmptyTable, InvalidForm, InvalidNote, Unreached
from formroads.notes import note_count, origins, restore, script_note
from formroads.regroupings import Regrouping
from formroads.rules import Rules
from tests.samples import BIT, Case, all_regroupings, all_rules, all_shapes, bit_forms, plain_obeys, plain_outline

A, B = BIT
FLAT = Regrouping(((0,), (1,)), ((0, 1),), ())


def branches_of(form):
    return [branch for branch, _ in plain_outline(form)]


def obeying(forms, rules):
    """The forms that obey the parted rules; full rules do not matter to notes."""
    return [form for form in forms if all(plain_obeys(form, ("parted", level)) for level in rules.parted)]


def start_forms(regrouping, rules, forms):
    """The start forms by their results, in the lexicographic order of their branches."""
    found = {}
    for form in obeying(forms, rules):
        try:
            found.setdefault(repr(regrouping(form)), []).append(form)
        except EmptyTable:
            pass
    return {result: sorted(starts, key=branches_of) for result, starts in found.items()}


def plain_note(starts, form):
    """The note of one of the start forms of a result: the branches that they have at a leaf are its choices."""
    note = []
    for column, branch in zip(zip(*map(branches_of, starts)), branches_of(form)):
        choices = sorted(set(column))
        if len(choices) > 1:
            note.append(choices.index(branch))
    return note


def listed(regrouping, rules, result, **most):
    return list(origins(regrouping, rules, result, **most))


class SmallFormsTest(Case):
    def test_two_columns(self):
        forms = {shape: bit_forms(shape, 3) for shape in all_shapes(2)}
        for regrouping in all_regroupings(2):
            for number, rules in enumerate(all_rules(regrouping.before)):
                self.check_regrouping(regrouping, rules, forms, number % 3, 3)

    def test_three_columns(self):
        forms = {shape: bit_forms(shape, 2) for shape in all_shapes(3)}
        for number, regrouping in enumerate(all_regroupings(3)):
            rules = list(all_rules(regrouping.before))
            self.check_regrouping(regrouping, rules[number % len(rules)], forms, number % 13, 13)

    def check_regrouping(self, regrouping, rules, forms, first, step):
        found = start_forms(regrouping, rules, forms[regrouping.before])
        for result in forms[regrouping.after][first::step]:
            self.check_result(regrouping, rules, result, found.get(repr(result), []))

    def check_result(self, regrouping, rules, result, starts):
        self.assertEqual(note_count(regrouping, rules, result), len(starts))
        self.assertEqual(listed(regrouping, rules, result), starts)
        if not starts:
            self.raises(Unreached, restore, regrouping, rules, result, [])
        for form in starts:
            note = script_note(regrouping, rules, form)
            self.assertEqual(note, plain_note(starts, form))
            self.assertEqual(restore(regrouping, rules, result, note), form)
            for wrong in (note + [0], note[:-1] if note else [1], [digit + 3 for digit in note] or [0]):
                self.raises(InvalidNote, restore, regrouping, rules, result, wrong)

    def test_which_forms_have_notes(self):
        for regrouping in all_regroupings(2):
            for rules in all_rules(regrouping.before):
                for form in bit_forms(regrouping.before, 2):
                    if not obeying([form], rules):
                        self.raises(InvalidForm, script_note, regrouping, rules, form)
                    elif any(len(path) - 1 in regrouping.refused() for _, path in plain_outline(form)):
                        self.raises(EmptyTable, script_note, regrouping, rules, form)
                    else:
                        script_note(regrouping, rules, form)


class NotesTest(Case):
    def test_by_hand(self):
        form = [((A,), [((A,), []), ((B,), [])]), ((A,), [((B,), [])]), ((B,), [((B,), [])])]
        result = [((A, A), []), ((A, B), []), ((A, B), []), ((B, B), [])]
        self.assertEqual(script_note(FLAT, Rules(), form), [1, 0])
        self.assertEqual(restore(FLAT, Rules(), result, [1, 0]), form)
        self.assertEqual(note_count(FLAT, Rules(), result), 4)
        self.assertEqual(script_note(FLAT, Rules((), (1,)), form), [1])
        self.assertEqual(note_count(FLAT, Rules((), (1,)), result), 2)
        self.assertEqual([branches_of(found) for found in listed(FLAT, Rules(), result)], [
            [0, 0, 0, 0], [0, 0, 1, 0], [0, 1, 0, 0], [0, 1, 1, 0]])

    def test_the_empty_form(self):
        for regrouping in all_regroupings(2):
            for rules in all_rules(regrouping.before):
                self.assertEqual(script_note(regrouping, rules, []), [])
                self.assertEqual(restore(regrouping, rules, [], []), [])
                self.assertEqual(note_count(regrouping, rules, []), 1)
                self.assertEqual(listed(regrouping, rules, []), [[]])
                self.raises(InvalidNote, restore, regrouping, rules, [], [0])

    def test_full_rules_do_not_matter(self):
        keeps = Regrouping.identity(((0,), (1,)))
        form = [((A,), []), ((A,), [((A,), []), ((A,), [])])]
        self.assertEqual(script_note(keeps, Rules((0,)), form), [])
        self.assertEqual(restore(keeps, Rules((0,)), form, []), form)
        self.assertEqual(note_count(keeps, Rules((0,)), form), 1)

    def test_hollow_leaves(self):
        shape = ((0,), (1,), (2,))
        form = [((A,), [((A,), []), ((A,), [])]), ((A,), [((A,), [((B,), [])])])]
        keeps = Regrouping(shape, ((0, 1), (2,)), (2,))
        result = [((A, A), []), ((A, A), []), ((A, A), [((B,), [])])]
        self.assertEqual(script_note(keeps, Rules(), form), [1, 0])
        self.assertEqual(restore(keeps, Rules(), result, [1, 0]), form)
        self.assertEqual(note_count(keeps, Rules(), result), 4)
        self.raises(EmptyTable, script_note, Regrouping(shape, ((0, 1), (2,)), (1,)), Rules(), form)
        self.raises(EmptyTable, script_note, keeps, Rules(), [((A,), [])])

    def test_rows_that_do_not_fit(self):
        for form in ([((A, A), [])], [((A,), [((A,), [((A,), [])])])], [((), [])], [((A,), [((A, B), [])])]):
            self.raises(InvalidForm, script_note, FLAT, Rules(), form)
        for result in ([((A,), [])], [((A, A), [((A,), [])])], [((A, A), []), ((A, A, A), [])]):
            for function in (note_count, listed):
                self.raises(InvalidForm, function, FLAT, Rules(), result)
            self.raises(InvalidForm, restore, FLAT, Rules(), result, [])

    def test_the_first_error(self):
        # A form that breaks a parted rule and is refused at the same time, and one whose rows do not fit either.
        broken = [((A,), []), ((A,), [])]
        self.raises(InvalidForm, script_note, FLAT, Rules((), (0,)), broken)
        self.raises(EmptyTable, script_note, FLAT, Rules((), (1,)), broken)
        self.raises(InvalidForm, script_note, FLAT, Rules(), broken + [((A, A), [])])
        # A result whose first leaf has no start path and whose last row does not fit.
        parts = Regrouping(((0, 1),), ((0,), (1,)), (0,))
        self.raises(Unreached, restore, parts, Rules(), [((A,), [])], [7])
        self.raises(InvalidForm, restore, parts, Rules(), [((A,), []), ((A, A), [])], [7])
        self.raises(InvalidForm, note_count, parts, Rules(), [((A,), []), ((A, A), [])])

    def test_results_that_nothing_leads_to(self):
        parts = Regrouping(((0, 1),), ((0,), (1,)), (0,))
        no_path = [((A,), [])]
        no_choice = [((A,), [((A,), [])]), ((A,), [((B,), [])])]
        joins = Regrouping(((0,), (1,)), ((0, 1),), ())
        for regrouping, rules, result in (
            (parts, Rules(), no_path), (parts, Rules(), no_choice),
            (joins, Rules((), (0, 1)), [((A, A), []), ((A, A), [])]),
        ):
            self.raises(Unreached, restore, regrouping, rules, result, [])
            self.assertEqual(note_count(regrouping, rules, result), 0)
            self.assertEqual(listed(regrouping, rules, result), [])
            self.assertEqual(listed(regrouping, rules, result, most=3), [])

    def test_digits(self):
        result = [((A, A), []), ((A, B), []), ((A, A), [])]
        for note in ([], [0], [0, 0, 0], [2, 0], [0, 2], [-1, 0], [0, -1], [5, 5]):
            self.raises(InvalidNote, restore, FLAT, Rules(), result, note)

    def test_many_leaves(self):
        result = [((A, A), [])] * 200
        self.assertEqual(note_count(FLAT, Rules(), result), 2 ** 199)
        form = restore(FLAT, Rules(), result, [0, 1] * 99 + [1])
        self.assertEqual(script_note(FLAT, Rules(), form), [0, 1] * 99 + [1])
        self.assertEqual(FLAT(form), result)
        self.assertEqual(len(listed(FLAT, Rules(), result, most=3)), 3)


class OriginsTest(Case):
    def test_the_first_ones(self):
        result = [((A, A), [])] * 4
        all_of_them = listed(FLAT, Rules(), result)
        self.assertEqual(len(all_of_them), 8)
        for most in range(11):
            self.assertEqual(listed(FLAT, Rules(), result, most=most), all_of_them[:most])
        self.assertEqual(listed(FLAT, Rules(), result, most=None), all_of_them)

    def test_only_the_iteration_raises(self):
        for most in (None, 0, 1):
            walked = origins(FLAT, Rules(), [((A,), [])], most=most)
            self.raises(InvalidForm, list, walked)

    def test_most_is_passed_by_keyword(self):
        self.raises(TypeError, origins, FLAT, Rules(), [], 1)

    def test_answers_do_not_depend_on_each_other(self):
        result = [((A, A), [])] * 3
        wanted = listed(FLAT, Rules(), result)
        found = []
        for form in origins(FLAT, Rules(), result):
            found.append(copy.deepcopy(form))
            form[0][1].clear()
            form.append("spoiled")
            result.clear()
        self.assertEqual(found, wanted)


class FreshnessTest(Case):
    def test_answers_and_arguments(self):
        form = [((A,), [((A,), []), ((A,), [])]), ((A,), [((B,), [])])]
        result = FLAT(form)
        self.unchanging(script_note, FLAT, Rules(), form)
        self.unchanging(restore, FLAT, Rules(), result, [1, 0])
        self.unchanging(note_count, FLAT, Rules(), result)
        self.unchanging(listed, FLAT, Rules(), result)
        keeps = Regrouping.identity(((0,), (1,)))
        self.unchanging(restore, keeps, Rules(), form, [])

    def test_after_an_error(self):
        self.raises_unchanged(InvalidForm, script_note, FLAT, Rules((), (0,)), [((A,), [((A,), [])])] * 2)
        self.raises_unchanged(EmptyTable, script_note, FLAT, Rules(), [((A,), [((A,), [])]), ((A,), [])])
        self.raises_unchanged(InvalidNote, restore, FLAT, Rules(), [((A, A), [])] * 2, [2])
        self.raises_unchanged(Unreached, restore, FLAT, Rules((), (0, 1)), [((A, A), [])] * 2, [])
        self.raises_unchanged(InvalidForm, note_count, FLAT, Rules(), [((A,), [])])
