"""Trials: blocks whose errors take a house back to what it was."""


class Kept:
    """What a house was when a block was entered, and what had been kept before."""

    def __init__(self, moments, before):
        self.moments = moments
        self.before = before


class Trial:
    """Keeps what a house is while the blocks of `with` statements run."""

    def __init__(self, house):
        self.house = house
        self.kept = None

    def __enter__(self):
        self.kept = Kept(self.house.moments, self.kept)
        return self.house

    def __exit__(self, kind, value, trace):
        if kind is not None:
            self.house.moments = self.kept.moments
        self.kept = self.kept.before
