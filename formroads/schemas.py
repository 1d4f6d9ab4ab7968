"""Schemas: which forms an office keeps."""

from formroads.errors import InvalidForm, InvalidSchema
from formroads.forms import check_form, rows_of
from formroads.kinds import UNKNOWN
from formroads.rules import rules_of
from formroads.shapes import check_shape, column_count


class Schema:
    """A shape over a kind book, with a kind for each column and rules."""

    def __init__(self, book, shape, kinds, rules):
        self.book = book
        self.shape = check_shape(shape)
        self.kinds = tuple(kinds)
        self.rules = rules
        self.last = len(shape) - 1
        if len(self.kinds) != column_count(shape):
            raise InvalidSchema("a schema has one kind for each column")
        for kind in self.kinds:
            if kind != UNKNOWN:
                book.checked(kind)
        self._check_rules()

    def _check_rules(self):
        if not all([0 <= level < self.last for level in self.rules.full]):
            raise InvalidSchema("a full rule is about a level before the last one")
        if not all([0 <= level <= self.last for level in self.rules.parted]):
            raise InvalidSchema("a parted rule is about a level of the shape")

    def choices(self, column):
        """The members of the kind of the column."""
        return self.book.members(self.kinds[column])

    def check(self, form):
        """Checks that the form fits the schema."""
        check_form(form, self.shape)
        members = [self.choices(column) for column in range(len(self.kinds))]
        for level, cells in rows_of(form):
            for column, value in zip(self.shape[level], cells):
                if value not in members[column]:
                    raise InvalidForm("a value is a member of the kind of its column")
        if not self.rules.within(rules_of(form, self.shape)):
            raise InvalidForm("the form breaks a rule of the schema")

    def fits(self, form):
        """True if the form fits the schema."""
        try:
            self.check(form)
        except InvalidForm:
            return False
        return True

    def same(self, other):
        """True if the shapes, the kinds and the rules are equal."""
        return self.shape == other.shape and self.kinds == other.kinds and self.rules == other.rules

    def with_kinds(self, kinds):
        return Schema(self.book, self.shape, kinds, self.rules)

    def with_rules(self, rules):
        return Schema(self.book, self.shape, self.kinds, rules)
