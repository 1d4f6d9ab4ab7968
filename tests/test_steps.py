"""Steps and scripts (points 31 to 34), and their writing (points 35 and 25)."""

import copy
import itertools

from formroads.errors import EmptyTable, InvalidStep, InvalidText
from formroads.forms import check_form, outline_of
from formroads.shapes import path_values
from formroads.steps import run_script, script_shape, step_form, step_shape
from formroads.stepwords import read_step, write_step
from tests.samples import (
    BIT, Case, all_forms, all_scripts, all_shapes, all_steps, all_subsets, bit_forms, plain_script, plain_shape,
)
from tests.test_words import NO_NUMBERS

A, B = BIT
C = ("bit", 2)


class ShapesTest(Case):
    def test_examples(self):
        self.assertEqual(step_shape(((0, 1, 2), (3,)), ("nest", 0, (0, 2))), ((1,), (0, 2), (3,)))
        self.assertEqual(step_shape(((0,), (1, 2, 3)), ("nest", 1, (2,))), ((0,), (1, 3), (2,)))
        self.assertEqual(step_shape(((0,), (3,), (1, 2)), ("unnest", 0)), ((0, 3), (1, 2)))
        self.assertEqual(step_shape(((0,), (3,), (1, 2)), ("unnest", 1)), ((0,), (1, 2, 3)))

    def test_all_shapes(self):
        for count in range(1, 5):
            columns = [subset[::order] for subset in all_subsets(range(-1, count + 1)) for order in (1, -1)]
            for shape in all_shapes(count):
                fitting = list(all_steps(shape))
                steps = [("unnest", level) for level in range(-2, 6)]
                steps += [("nest", level, nested) for level in range(-1, 5) for nested in columns]
                for step in steps:
                    if step in fitting:
                        self.assertEqual(step_shape(shape, step), plain_shape(shape, step))
                    else:
                        self.raises(InvalidStep, step_shape, shape, step)

    def test_steps_that_do_not_fit(self):
        shape = ((0, 1, 2), (3,))
        for step in (("nest", 0, ()), ("nest", 0, (0, 1, 2)), ("nest", 0, (1, 0)), ("nest", 0, (1, 1)), ("nest", 0, (3,)),
                     ("nest", 0, (0, 3)), ("nest", 0, (0, 0, 1)), ("nest", 1, (3,)), ("nest", 1, (0,)), ("nest", 2, (0,)),
                     ("nest", -1, (3,)), ("nest", -2, (0,)), ("nest", 0, (-1,)), ("unnest", 1), ("unnest", 2),
                     ("unnest", -1), ("unnest", -2), ("flatten", 0), ("", 0), ("Nest", 0, (0,)), ("nests", 0, (0,)), ("un", 0)):
            self.raises(InvalidStep, step_shape, shape, step)
            self.raises(InvalidStep, script_shape, shape, [step])
            self.raises(InvalidStep, step_form, [], shape, step)
            self.raises(InvalidStep, run_script, [], shape, [step])

    def test_script_shapes(self):
        shape = ((0, 1, 2),)
        self.assertEqual(script_shape(shape, []), shape)
        steps = [("nest", 0, (0, 2)), ("nest", 1, (2,)), ("unnest", 0)]
        self.assertEqual(script_shape(shape, steps), ((0, 1), (2,)))
        # The second step must fit the shape that the first one leaves, not the first shape.
        self.raises(InvalidStep, script_shape, shape, [("nest", 0, (0, 2)), ("nest", 0, (0,))])
        self.raises(InvalidStep, script_shape, shape, steps + [("unnest", 1)])
        self.raises(InvalidStep, script_shape, shape, [("unnest", 0)] + steps)


class FormsTest(Case):
    def test_nest(self):
        shape = ((0, 1),)
        form = [((A, A), []), ((A, B), []), ((B, B), []), ((A, B), [])]
        self.assertEqual(step_form(form, shape, ("nest", 0, (1,))), [
            ((A,), [((A,), []), ((B,), [])]), ((B,), [((B,), [])]), ((A,), [((B,), [])])])
        self.assertEqual(step_form(form, shape, ("nest", 0, (0,))), [
            ((A,), [((A,), [])]), ((B,), [((A,), []), ((B,), []), ((A,), [])])])

    def test_nest_with_inner_tables(self):
        shape = ((0, 1), (2,))
        form = [((A, A), [((C,), []), ((C,), [])]), ((A, A), []), ((A, B), [((B,), [])]), ((B, B), [])]
        self.assertEqual(step_form(form, shape, ("nest", 0, (1,))), [
            ((A,), [((A,), [((C,), []), ((C,), [])]), ((A,), []), ((B,), [((B,), [])])]), ((B,), [((B,), [])])])

    def test_rows_of_different_tables_stay_apart(self):
        shape = ((0,), (1, 2))
        form = [((A,), [((A, A), []), ((A, B), [])]), ((A,), [((A, A), [])]), ((B,), [])]
        self.assertEqual(step_form(form, shape, ("nest", 1, (2,))), [
            ((A,), [((A,), [((A,), []), ((B,), [])])]), ((A,), [((A,), [((A,), [])])]), ((B,), [])])

    def test_unnest(self):
        shape = ((1,), (0,))
        form = [((A,), [((B,), []), ((C,), [])]), ((A,), [((B,), [])])]
        self.assertEqual(step_form(form, shape, ("unnest", 0)), [((B, A), []), ((C, A), []), ((B, A), [])])
        self.assertEqual(step_form(form, ((0,), (1,)), ("unnest", 0)), [((A, B), []), ((A, C), []), ((A, B), [])])

    def test_unnest_keeps_inner_tables(self):
        shape = ((1,), (0, 3), (2,))
        form = [((A,), [((B, C), [((C,), []), ((A,), [])]), ((A, A), [])])]
        self.assertEqual(step_form(form, shape, ("unnest", 0)), [((B, A, C), [((C,), []), ((A,), [])]), ((A, A, A), [])])

    def test_hollow_leaves(self):
        shape = ((0,), (1,), (2,))
        top = [((A,), []), ((B,), [((B,), [((C,), [])])])]
        middle = [((A,), [((B,), [])]), ((B,), [((B,), [((C,), [])])])]
        self.raises(EmptyTable, step_form, top, shape, ("unnest", 0))
        self.assertEqual(step_form(top, shape, ("unnest", 1)), [((A,), []), ((B,), [((B, C), [])])])
        self.raises(EmptyTable, step_form, middle, shape, ("unnest", 1))
        self.assertEqual(step_form(middle, shape, ("unnest", 0)), [((A, B), []), ((B, B), [((C,), [])])])

    def test_the_last_row_is_hollow(self):
        shape = ((0,), (1,))
        self.raises(EmptyTable, step_form, [((A,), [((A,), [])]), ((A,), [])], shape, ("unnest", 0))
        self.raises(EmptyTable, step_form, [((A,), [])], shape, ("unnest", 0))

    def test_small_forms(self):
        shapes = [((0,),), ((0, 1),), ((0,), (1,)), ((1,), (0,)), ((0, 1, 2),), ((0, 2), (1,)), ((1,), (0, 2)), ((1,), (2,), (0,))]
        for shape in shapes:
            for form in bit_forms(shape, 2):
                for step in all_steps(shape):
                    wanted = plain_script(form, shape, [step])
                    if wanted is None:
                        self.raises(EmptyTable, step_form, form, shape, step)
                    else:
                        self.assertEqual(step_form(form, shape, step), wanted)

    def test_three_rows(self):
        for form in bit_forms(((0, 1),), 4):
            for step in (("nest", 0, (0,)), ("nest", 0, (1,))):
                self.assertEqual(step_form(form, ((0, 1),), step), plain_script(form, ((0, 1),), [step]))
        for form in bit_forms(((0,), (1,)), 3):
            wanted = plain_script(form, ((0,), (1,)), [("unnest", 0)])
            if wanted is not None:
                self.assertEqual(step_form(form, ((0,), (1,)), ("unnest", 0)), wanted)

    def test_four_columns(self):
        choices = [[A, B], [A], [A, B], [B]]
        for shape in (((1, 3), (0, 2)), ((0, 1, 2, 3),), ((2,), (0, 1, 3)), ((0,), (2,), (1, 3))):
            for form in all_forms(shape, choices, 3)[::5]:
                for step in all_steps(shape):
                    wanted = plain_script(form, shape, [step])
                    if wanted is not None:
                        self.assertEqual(step_form(form, shape, step), wanted)


class ScriptsTest(Case):
    def test_scripts(self):
        for shape in (((0, 1),), ((0,), (1,)), ((2,), (0, 1)), ((0, 1, 2),)):
            forms = bit_forms(shape, 2)
            for number, steps in enumerate(all_scripts(shape, 3)):
                for form in forms[number % 7::7]:
                    wanted = plain_script(form, shape, steps)
                    if wanted is None:
                        self.raises(EmptyTable, run_script, form, shape, steps)
                    else:
                        self.assertEqual(run_script(form, shape, steps), wanted)
                        self.check_leaves(form, shape, wanted, script_shape(shape, steps))

    def check_leaves(self, form, shape, changed, after):
        check_form(changed, after)
        self.assertEqual(
            [path_values(after, path) for _, path in outline_of(changed)],
            [path_values(shape, path) for _, path in outline_of(form)])

    def test_the_empty_script_and_the_empty_form(self):
        form = [((A,), [((B,), [])]), ((A,), [])]
        self.assertEqual(run_script(form, ((0,), (1,)), []), form)
        for shape in (((0, 1),), ((0,), (1,))):
            for steps in all_scripts(shape, 3):
                self.assertEqual(run_script([], shape, steps), [])

    def test_steps_are_checked_before_any_is_done(self):
        form = [((A,), [])]
        shape = ((0,), (1,))
        self.raises(EmptyTable, run_script, form, shape, [("unnest", 0), ("nest", 0, (1,))])
        self.raises(InvalidStep, run_script, form, shape, [("unnest", 0), ("unnest", 0)])
        self.raises(InvalidStep, run_script, form, shape, [("unnest", 0), ("nest", 0, (1,)), ("nest", 0, (1,))])
        self.raises(InvalidStep, step_form, form, shape, ("unnest", 1))

    def test_forms_need_not_obey_rules(self):
        form = [((A, A), []), ((A, A), [])]
        self.assertEqual(run_script(form, ((0, 1),), [("nest", 0, (1,)), ("unnest", 0)]), form)


class WritingTest(Case):
    def test_examples(self):
        for step, line in ((("nest", 0, (1, 2)), "nest 0 1,2"), (("unnest", 0), "unnest 0"), (("nest", 12, (0,)), "nest 12 0"),
                           (("unnest", 999999), "unnest 999999"), (("nest", 3, (0, 10, 999999)), "nest 3 0,10,999999")):
            self.assertEqual(write_step(step), line)
            self.assertEqual(read_step(line), step)

    def test_all_steps(self):
        steps = {step for count in range(1, 5) for shape in all_shapes(count) for step in all_steps(shape)}
        lines = {write_step(step) for step in steps}
        self.assertEqual(len(lines), len(steps))
        for step in steps:
            self.assertEqual(read_step(write_step(step)), step)

    def test_no_steps(self):
        lines = ["", " ", "nest", "unnest", "nest 0", "unnest 0 1", "nest 0 1 2", "nest 0 1,2 3", "unnest 0 ", " unnest 0",
                 "unnest  0", "nest  0 1", "nest 0  1", "nest 0 1,2 ", "flatten 0", "Nest 0 1", "0 nest 1", "nest 0 1,1",
                 "nest 0 2,1", "nest 0 0,2,1", "nest 0 ,1", "nest 0 1,", "nest 0 ,", "nest 0 1,,2", "nest 0 x", "nest x 1",
                 "unnest x", "nest 0 1;2", "nest 0 01", "unnest 00", "unnest -1", "nest 0 -1", "nest 0 0,-1", "nest,0 1",
                 "un nest 0", "nest 0 -", "nest 0 1/2", "unnest 0,1", "nest 0 0,0,1"]
        for line in lines:
            self.raises(InvalidText, read_step, line)
        for number in NO_NUMBERS:
            self.raises(InvalidText, read_step, "unnest " + number)
            self.raises(InvalidText, read_step, "nest " + number + " 1")
            self.raises(InvalidText, read_step, "nest 0 " + number)

    def test_all_pairs_of_columns(self):
        for first, second in itertools.product(range(12), repeat=2):
            line = "nest 0 " + str(first) + "," + str(second)
            if first < second:
                self.assertEqual(read_step(line), ("nest", 0, (first, second)))
            else:
                self.raises(InvalidText, read_step, line)


class FreshnessTest(Case):
    def test_answers_and_arguments(self):
        form = [((A, B), [((C,), []), ((A,), [])]), ((A, C), [((B,), [])])]
        shape = ((0, 2), (1,))
        self.unchanging(step_form, copy.deepcopy(form), shape, ("nest", 0, (2,)))
        self.unchanging(step_form, copy.deepcopy(form), shape, ("unnest", 0))
        for steps in ([], [("unnest", 0)], [("nest", 0, (0,))], [("nest", 0, (0,)), ("unnest", 1)]):
            self.unchanging(run_script, copy.deepcopy(form), shape, steps)
            self.unchanging(script_shape, shape, steps)

    def test_tables_that_a_step_does_not_change(self):
        shape = ((0,), (1,), (2, 3))
        form = [((A,), [((B,), [((C, A), [])])])]
        self.unchanging(step_form, copy.deepcopy(form), shape, ("unnest", 0))
        self.unchanging(step_form, copy.deepcopy(form), shape, ("nest", 2, (3,)))
        self.unchanging(step_form, copy.deepcopy(form) + [((B,), [])], shape, ("nest", 2, (3,)))

    def test_arguments_after_an_error(self):
        form = [((A,), [((B,), [])]), ((A,), [])]
        self.raises_unchanged(EmptyTable, run_script, form, ((0,), (1,)), [("unnest", 0)])
        self.raises_unchanged(InvalidStep, run_script, form, ((0,), (1,)), [("unnest", 0), ("unnest", 0)])
        self.raises_unchanged(EmptyTable, step_form, form, ((0,), (1,)), ("unnest", 0))
