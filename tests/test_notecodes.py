"""Notes as digits and as numbers (points 44, 45 and 46)."""

import itertools

from formroads.errors import InvalidForm, InvalidNote, Unreached
from formroads.notecodes import chosen_by, note_number, note_of, note_sizes, numbered_note, sizes_of
from formroads.regroupings import Regrouping
from formroads.rules import Rules
from tests.samples import BIT, Case

A, B = BIT
LISTS = [["a"], ["b", "c"], ["d"], ["c", "b", "a"], [7, 5], [("day", 0)]]
SIZES = [(), (1,), (2,), (3,), (2, 3), (3, 2), (1, 2), (2, 1, 2), (2, 2, 2), (4, 1, 3), (1, 1)]


class ChoosingTest(Case):
    def test_sizes(self):
        self.assertEqual(sizes_of(LISTS), [2, 3, 2])
        self.assertEqual(sizes_of([]), [])
        self.assertEqual(sizes_of([[1], [2]]), [])
        self.assertEqual(sizes_of([[1, 2], [1, 2, 3, 4]]), [2, 4])

    def test_notes(self):
        self.assertEqual(note_of(LISTS, ["a", "c", "d", "b", 7, ("day", 0)]), [1, 1, 0])
        self.assertEqual(chosen_by(LISTS, [1, 1, 0]), ["a", "c", "d", "b", 7, ("day", 0)])
        self.assertEqual(note_of([], []), [])
        self.assertEqual(chosen_by([], []), [])
        self.assertEqual(note_of([["x"]], ["x"]), [])
        self.assertEqual(chosen_by([["x"], ["y"]], []), ["x", "y"])

    def test_all_choices(self):
        for lists in (LISTS, LISTS[1:], LISTS[:4], [[0, 1], [1, 0], [2]], [["a", "b"]], [["a"], ["b"]]):
            notes = []
            for chosen in itertools.product(*lists):
                note = note_of(lists, list(chosen))
                wanted = [items.index(item) for items, item in zip(lists, chosen) if len(items) > 1]
                self.assertEqual(note, wanted)
                self.assertEqual(chosen_by(lists, note), list(chosen))
                notes.append(tuple(note))
            self.assertEqual(len(set(notes)), len(notes))

    def test_notes_that_do_not_fit(self):
        for note in ([], [0], [0, 0], [0, 0, 0, 0], [2, 0, 0], [0, 3, 0], [0, 0, 2], [-1, 0, 0], [0, -1, 0], [0, 0, -1],
                     [5, 5, 5], [0, 0, 0, 0, 0, 0]):
            self.raises(InvalidNote, chosen_by, LISTS, note)
        self.raises(InvalidNote, chosen_by, [], [0])
        self.raises(InvalidNote, chosen_by, [["x"]], [0])


class NumbersTest(Case):
    def test_by_hand(self):
        self.assertEqual(note_number([2, 3], [1, 2]), 5)
        self.assertEqual(note_number([3, 2], [2, 0]), 4)
        self.assertEqual(numbered_note([2, 3], 4), [1, 1])
        self.assertEqual(numbered_note([3, 2], 1), [0, 1])

    def test_no_sizes(self):
        self.assertEqual(note_number([], []), 0)
        self.assertEqual(numbered_note([], 0), [])
        self.raises(InvalidNote, note_number, [], [0])
        self.raises(InvalidNote, numbered_note, [], 1)
        self.raises(InvalidNote, numbered_note, [], -1)

    def test_lexicographic_order(self):
        for sizes in SIZES:
            notes = [list(note) for note in itertools.product(*[range(size) for size in sizes])]
            for number, note in enumerate(notes):
                self.assertEqual(note_number(list(sizes), note), number)
                self.assertEqual(numbered_note(list(sizes), number), note)
            for number in (len(notes), len(notes) + 1, 10 * len(notes), -1, -2, -len(notes)):
                self.raises(InvalidNote, numbered_note, list(sizes), number)

    def test_notes_that_do_not_fit(self):
        for sizes in SIZES:
            fitting = [list(note) for note in itertools.product(*[range(size) for size in sizes])]
            for length in range(len(sizes) + 2):
                for note in itertools.product(range(-1, 5), repeat=length):
                    if list(note) not in fitting:
                        self.raises(InvalidNote, note_number, list(sizes), list(note))

    def test_many_digits(self):
        sizes = [2, 3, 4] * 50
        count = 24 ** 50
        for number in (0, 1, count // 7, count - 1):
            self.assertEqual(note_number(sizes, numbered_note(sizes, number)), number)
        self.assertEqual(numbered_note(sizes, count - 1), [1, 2, 3] * 50)
        self.raises(InvalidNote, numbered_note, sizes, count)


class NoteSizesTest(Case):
    def test_by_hand(self):
        regrouping = Regrouping(((0,), (1,)), ((0, 1),), ())
        result = [((A, A), []), ((A, B), []), ((B, B), []), ((B, B), [])]
        self.assertEqual(note_sizes(regrouping, Rules(), result), [2, 2])
        self.assertEqual(note_sizes(regrouping, Rules((), (0,)), result), [])
        self.assertEqual(note_sizes(regrouping, Rules((), (1,)), result), [2])
        self.assertEqual(note_sizes(regrouping, Rules(), []), [])
        deep = Regrouping(((0,), (1,), (2,)), ((0, 1, 2),), ())
        self.assertEqual(note_sizes(deep, Rules(), [((A, A, A), [])] * 3), [3, 3])

    def test_errors(self):
        regrouping = Regrouping(((0,), (1,)), ((0, 1),), ())
        self.raises(InvalidForm, note_sizes, regrouping, Rules(), [((A,), [])])
        self.raises(Unreached, note_sizes, regrouping, Rules((), (0, 1)), [((A, A), []), ((A, A), [])])
        self.raises(Unreached, note_sizes, Regrouping(((0, 1),), ((0,), (1,)), (0,)), Rules(), [((A,), [])])


class FreshnessTest(Case):
    def test_answers_and_arguments(self):
        lists = [["a"], ["b", "c"], ["x", "y", "z"]]
        self.unchanging(sizes_of, lists)
        self.unchanging(note_of, lists, ["a", "c", "y"])
        self.unchanging(chosen_by, lists, [1, 2])
        self.unchanging(note_number, [2, 3], [1, 1])
        self.unchanging(numbered_note, [2, 3], 4)

    def test_arguments_after_an_error(self):
        self.raises_unchanged(InvalidNote, chosen_by, [["a"], ["b", "c"]], [2])
        self.raises_unchanged(InvalidNote, note_number, [2, 3], [1, 3])
        self.raises_unchanged(InvalidNote, numbered_note, [2, 3], 6)
