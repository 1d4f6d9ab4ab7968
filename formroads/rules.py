"""Rules about the levels of a form."""

from formroads.forms import outline_of


class Rules:
    """A set of rules: the full levels and the parted levels."""

    def __init__(self, full=(), parted=()):
        self.full = tuple(sorted(set(full)))
        self.parted = tuple(sorted(set(parted)))

    def __or__(self, other):
        return Rules(self.full + other.full, self.parted + other.parted)

    def __and__(self, other):
        full = [level for level in self.full if level in other.full]
        parted = [level for level in self.parted if level in other.parted]
        return Rules(full, parted)

    def __contains__(self, rule):
        return rule in self.named()

    def __eq__(self, other):
        return isinstance(other, Rules) and self.full == other.full and self.parted == other.parted

    def named(self):
        """The rules: the full ones, then the parted ones, both in ascending order."""
        return [("full", level) for level in self.full] + [("parted", level) for level in self.parted]

    def within(self, other):
        """True if every rule of this set is a rule of the other set."""
        return all([rule in other for rule in self.named()])


def rules_of(form, shape):
    """All rules that a form of the shape obeys."""
    outline = outline_of(form)
    hollow = [len(path) - 1 for _, path in outline]
    alike = [
        branch
        for (branch, path), (_, before) in zip(outline[1:], outline)
        if path[branch] == before[branch]
    ]
    full = [level for level in range(len(shape) - 1) if level not in hollow]
    parted = [level for level in range(len(shape)) if level not in alike]
    return Rules(full, parted)
