"""Ways: how forms go from one office to another."""

from formroads.borders import check_border, cross_form
from formroads.errors import EmptyTable, NotJoined, Stopped
from formroads.steps import run_script, script_shape
from formroads.words import check_name


class Way:
    """A border into the kinds of the end, and then steps into its shape."""

    def __init__(self, name, label, start, end, steps=()):
        self.name = check_name(name)
        self.label = check_name(label)
        self.start = start
        self.end = end
        self.steps = tuple(steps)
        if len(start.kinds) != len(end.kinds):
            raise NotJoined("the schemas do not have the same number of columns")
        check_border(start.book, start.kinds, end.kinds)
        if script_shape(start.shape, self.steps) != end.shape:
            raise NotJoined("the steps do not lead to the shape of the end")

    def send(self, form):
        """The form behind the way."""
        return self.take_steps(self.cross(form, self.start.shape))

    def cross(self, form, shape):
        """The form of some shape behind the border of the way."""
        return cross_form(self.start.book, form, shape, self.end.kinds, self.label)

    def take_steps(self, form):
        """The form of the shape of the start behind the steps of the way."""
        try:
            return run_script(form, self.start.shape, self.steps)
        except EmptyTable:
            raise Stopped(self.label) from None
