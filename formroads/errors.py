"""All errors that the program raises."""


class FormroadsError(ValueError):
    """The base class of all errors of the program."""


class InvalidName(FormroadsError):
    """A text is not a name."""


class DuplicateName(FormroadsError):
    """A name or a place stands twice where it may stand once."""


class UnknownName(FormroadsError):
    """A name stands for nothing that is there."""


class TooMany(FormroadsError):
    """There is more of something than is allowed."""


class InvalidText(FormroadsError):
    """A text is not the writing of what is read."""


class InvalidKind(FormroadsError):
    """A record does not describe a kind."""


class InvalidShape(FormroadsError):
    """Levels or cuts are not those of a shape."""


class InvalidForm(FormroadsError):
    """A form, an outline or a list of rows does not fit."""


class InvalidSchema(FormroadsError):
    """Kinds or rules do not fit the shape of a schema."""


class InvalidOrder(FormroadsError):
    """New numbers or new names cannot replace the old ones."""


class InvalidStep(FormroadsError):
    """A step does not fit a shape."""


class EmptyTable(FormroadsError):
    """An inner table that a step takes apart has no rows."""


class InvalidRegrouping(FormroadsError):
    """Shapes and depths are not those of a regrouping."""


class NotJoined(FormroadsError):
    """Two things do not meet where one should go on from the other."""


class InvalidNote(FormroadsError):
    """A note does not fit the sizes."""


class Unreached(FormroadsError):
    """Nothing leads to a result."""


class Clash(FormroadsError):
    """A border is not allowed for the kinds."""


class Stopped(FormroadsError):
    """A form is stopped under a label."""

    def __init__(self, label):
        super().__init__("stopped")
        self.label = label


class Conflict(FormroadsError):
    """Walks show that there is no sound table."""

    def __init__(self, walks):
        super().__init__("there is no sound table")
        self.walks = tuple([list(walk) for walk in walks])


class InvalidCertificate(FormroadsError):
    """A line of a certificate is missing or different."""

    def __init__(self, line):
        super().__init__("not the certificate")
        self.line = line


class NotForward(FormroadsError):
    """A way does not lead to an office that entered later."""


class RuleLost(FormroadsError):
    """A form may arrive at an office that breaks a rule of the office."""

    def __init__(self, rule):
        super().__init__("a rule is lost")
        self.rule = rule


class InvalidQuery(FormroadsError):
    """A query does not fit a schema."""


class NotAnswered(FormroadsError):
    """A summary does not answer a query."""


class InvalidMove(FormroadsError):
    """A move cannot be made."""


class NothingToUndo(FormroadsError):
    """There is no entry to take back."""
