"""Borders and the forms behind them (points 49, 50 and 55)."""

import itertools

from formroads.borders import check_border, cross_form, cross_passages
from formroads.errors import Clash, Stopped, UnknownName
from formroads.passages import Passage
from tests.kindsamples import (
    all_books, all_sequences, allowed_sequence, kinds_of, plain_allowed, plain_cross, plain_members,
)
from tests.samples import Case, RECORDS, all_forms, plain_rows, sample_book

SHAPE = ((1,), (0,))
MONTH, DAY, SIZE = ("month", 1), ("day", 2), ("size", 0)


class CheckBorderTest(Case):
    def test_one_column(self):
        for records, book in all_books():
            for kind, target in itertools.product(kinds_of(records), repeat=2):
                if plain_allowed(records, kind, target):
                    self.assertIsNone(check_border(book, (kind,), [target]))
                else:
                    self.raises(Clash, check_border, book, (kind,), [target])

    def test_by_hand(self):
        book = sample_book()
        # A told target above the told kind, the kind itself, below it and beside it.
        self.assertIsNone(check_border(book, ("day",), ("month",)))
        self.assertIsNone(check_border(book, ("day",), ("day",)))
        self.raises(Clash, check_border, book, ("month",), ("day",))
        self.raises(Clash, check_border, book, ("size",), ("day",))
        for kind in ("?", "day", "size"):
            self.assertIsNone(check_border(book, (kind,), ("?",)))
            self.assertIsNone(check_border(book, ("?",), (kind,)))

    def test_several_columns(self):
        book = sample_book()
        pairs = list(itertools.product(("?", "day", "month", "size"), repeat=2))
        for first, second in itertools.product(pairs, repeat=2):
            kinds, targets = list(zip(first, second))
            allowed = plain_allowed(RECORDS, *first) and plain_allowed(RECORDS, *second)
            if allowed:
                self.assertIsNone(check_border(book, kinds, list(targets)))
            else:
                self.raises(Clash, check_border, book, list(kinds), targets)
        self.assertIsNone(check_border(book, (), ()))

    def test_strange_kinds(self):
        book = sample_book()
        for kinds, targets in (
            (("week",), ("day",)), (("day",), ("week",)), (("",), ("?",)), (("?",), ("Day",)),
            # A strange kind behind a clash, and beside it.
            (("month", "week"), ("day", "?")), (("month", "?"), ("day", "week")), (("week", "month"), ("?", "day")),
        ):
            self.raises(UnknownName, check_border, book, kinds, targets)


class CrossFormTest(Case):
    def test_small_forms(self):
        book = sample_book()
        values = [("month", 1), ("day", 0), ("day", 2), ("size", 1)]
        forms = all_forms(SHAPE, [values, values[1:]], 1) + all_forms(SHAPE, [values[:2], values[1:3]], 2)
        for targets in itertools.product(kinds_of(RECORDS), repeat=2):
            for form in forms:
                behind = plain_cross(RECORDS, form, SHAPE, targets)
                if behind is None:
                    error = self.raises(Stopped, cross_form, book, form, SHAPE, targets, "red")
                    self.assertEqual(error.label, "red")
                else:
                    self.assertEqual(cross_form(book, form, SHAPE, targets, "red"), behind)

    def test_by_hand(self):
        form = [((DAY,), [((SIZE,), []), ((MONTH,), [])]), ((DAY,), [])]
        self.assertEqual(cross_form(sample_book(), form, SHAPE, ["?", "month"], "red"), [
            ((MONTH,), [((SIZE,), []), ((MONTH,), [])]), ((MONTH,), [])])
        # The cells of a level stand in the order of its columns.
        self.assertEqual(
            cross_form(sample_book(), [((DAY, DAY), [])], ((0, 2), (1,)), ("day", "size", "month"), "red"),
            [((DAY, MONTH), [])])

    def test_the_empty_form(self):
        self.assertEqual(cross_form(sample_book(), [], SHAPE, ("size", "day"), "red"), [])

    def test_strange_targets(self):
        book = sample_book()
        for targets in (("week", "day"), ("day", "week")):
            for form in ([], [((DAY,), [])], [((SIZE,), [])], [((SIZE,), [((SIZE,), [])])]):
                self.raises_unchanged(UnknownName, cross_form, book, form, SHAPE, targets, "red")


def plain_outcome(form, shape, passages, labels):
    """The outcome by the words of point 55, with what passages say of single values."""
    stages = []
    for level, cells in plain_rows(form):
        stages.extend(passages[column].stage(value) for column, value in zip(shape[level], cells))
    stages = [stage for stage in stages if stage]
    return labels[min(stages) - 1] if stages else None


class CrossPassagesTest(Case):
    def test_small_forms(self):
        book = sample_book()
        sequences = [kinds for kinds in all_sequences(RECORDS, 3) if allowed_sequence(RECORDS, kinds)]
        labels = ["one", "two", "six"]
        for first, second in zip(sequences[::3], sequences[5::2]):
            choices = [plain_members(RECORDS, first[0])[::2], plain_members(RECORDS, second[0])[1::2] or [("month", 0)]]
            passages = [Passage.of(book, first), Passage.of(book, second)]
            for form in all_forms(SHAPE, choices, 2)[::5]:
                self.check_form(form, (first, second), passages, labels)

    def check_form(self, form, sequences, passages, labels):
        label = plain_outcome(form, SHAPE, passages, labels)
        behind = form
        for stage, targets in enumerate(zip(*sequences)):
            if stage > 0 and behind is not None:
                following = plain_cross(RECORDS, behind, SHAPE, targets)
                if following is None:
                    self.assertEqual(label, labels[stage - 1])
                behind = following
        if label is None:
            self.assertEqual(cross_passages(form, SHAPE, passages, labels), behind)
        else:
            error = self.raises(Stopped, cross_passages, form, SHAPE, tuple(passages), labels)
            self.assertEqual(error.label, label)

    def test_the_least_stage_counts(self):
        book = sample_book()
        passages = [Passage.of(book, ("?", "?", "day")), Passage.of(book, ("?", "size", "size"))]
        form = [((SIZE,), [((SIZE,), [])]), ((DAY,), [])]
        self.assertEqual(self.raises(Stopped, cross_passages, form, SHAPE, passages, ["red", "blue"]).label, "red")
        self.assertEqual(
            self.raises(Stopped, cross_passages, form[:1], SHAPE, passages, ["red", "blue"]).label, "blue")
        self.assertEqual(cross_passages([((SIZE,), [])], SHAPE, passages, ["red", "blue"]), [((SIZE,), [])])

    def test_no_borders_and_no_rows(self):
        book = sample_book()
        passages = [Passage.of(book, ["?"]), Passage.of(book, ["day"])]
        form = [((DAY,), [((SIZE,), []), ((SIZE,), [])]), ((DAY,), [])]
        self.assertEqual(cross_passages(form, SHAPE, passages, []), form)
        self.assertEqual(cross_passages([], SHAPE, passages, []), [])


class FreshnessTest(Case):
    def test_answers_and_arguments(self):
        book = sample_book()
        form = [((DAY,), [((SIZE,), []), ((MONTH,), [])]), ((DAY,), [])]
        self.unchanging(check_border, book, ["day"], ["month"])
        self.unchanging(cross_form, book, form, SHAPE, ["?", "?"], "red")
        passages = [Passage.of(book, ["?"]), Passage.of(book, ["day"])]
        self.unchanging(cross_passages, form, SHAPE, passages, [])
        self.raises_unchanged(Clash, check_border, book, ["month"], ["day"])
        self.raises_unchanged(Stopped, cross_form, book, form, SHAPE, ["size", "?"], "red")
        passages = [Passage.of(book, ["?", "size"]), Passage.of(book, ["day", "day"])]
        self.raises_unchanged(Stopped, cross_passages, form, SHAPE, passages, ["red"])
