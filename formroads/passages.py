"""Passages: what several borders one after the other do to the values of a column."""

from formroads.borders import check_border, check_kinds
from formroads.errors import NotJoined
from formroads.kinds import UNKNOWN


class Passage:
    """Tells at once where a value stops or to what it is led."""

    def __init__(self, book, start_kind, end_kind, borders, gate, gate_stage, reached, fail_stage):
        self.book = book
        self.start_kind = start_kind
        self.end_kind = end_kind
        self.borders = borders
        self.gate = gate
        self.gate_stage = gate_stage
        self.reached = reached
        self.fail_stage = fail_stage

    @staticmethod
    def of(book, kinds):
        """The passage of a sequence of kinds."""
        check_kinds(book, kinds)
        check_border(book, kinds[:-1], kinds[1:])
        gate = None
        gate_stage = 0
        reached = None if kinds[0] == UNKNOWN else kinds[0]
        fail_stage = 0
        for stage, kind in enumerate(kinds[1:], start=1):
            if kind != UNKNOWN and fail_stage == 0:
                if reached is None:
                    gate = kind
                    gate_stage = stage
                    reached = kind
                elif book.below(reached, kind):
                    reached = kind
                else:
                    fail_stage = stage
        return Passage(book, kinds[0], kinds[-1], len(kinds) - 1, gate, gate_stage, reached, fail_stage)

    def then(self, other):
        """The passage joined with another one behind it."""
        if other.start_kind != self.end_kind:
            raise NotJoined("the other passage starts at another kind")
        gate, gate_stage, reached, fail_stage = self._joined_parts(other)
        borders = self.borders + other.borders
        return Passage(
            self.book, self.start_kind, other.end_kind, borders, gate, gate_stage, reached, fail_stage
        )

    def _joined_parts(self, other):
        if self.fail_stage > 0:
            return (self.gate, self.gate_stage, self.reached, self.fail_stage)
        next_gate_stage = self._stage_behind(other.gate_stage)
        next_fail_stage = self._stage_behind(other.fail_stage)
        if self.reached is None:
            return (other.gate, next_gate_stage, other.reached, next_fail_stage)
        if other.gate is not None and not self.book.below(self.reached, other.gate):
            return (self.gate, self.gate_stage, self.reached, next_gate_stage)
        reached = self.reached if other.reached is None else other.reached
        return (self.gate, self.gate_stage, reached, next_fail_stage)

    def _stage_behind(self, stage):
        # The stage 0 means never.
        return self.borders + stage if stage > 0 else 0

    def renumbered(self, borders, numbers):
        """The passage with so many borders, whose stages have new numbers; 0 is one of them and stays 0."""
        return Passage(
            self.book, self.start_kind, self.end_kind, borders,
            self.gate, numbers[self.gate_stage], self.reached, numbers[self.fail_stage],
        )

    def stage(self, value):
        """The stage at which a value of the start kind stops, or 0."""
        if self.gate is not None and not self.book.below(value[0], self.gate):
            return self.gate_stage
        return self.fail_stage

    def lead(self, value):
        """The value to which a value of the start kind is led, or None if it stops."""
        if self.stage(value) > 0:
            return None
        if self.reached is None:
            return value
        return self.book.led(value, self.reached)

    def passing(self):
        """The members of the start kind that pass."""
        return [value for value in self.book.members(self.start_kind) if self.stage(value) == 0]

    def facts(self):
        return (
            self.start_kind, self.end_kind, self.borders,
            self.gate, self.gate_stage, self.reached, self.fail_stage,
        )
