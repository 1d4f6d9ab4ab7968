"""Desks: lines that ask a house and change it."""

from formroads.errors import InvalidText
from formroads.journals import ENTRY_WORDS, read_entry, write_entry
from formroads.kinds import UNKNOWN
from formroads.words import is_name, read_number, split_words
from formroads.writing import write_form, write_value


class Desk:
    """Does what lines say in a house."""

    def __init__(self, house):
        self.house = house

    def run(self, line):
        """Does what the line says and returns the lines of the answer."""
        words = split_words(line)
        if words[0] in ENTRY_WORDS:
            self.house.do(read_entry(line))
            return []
        if words == ["undo"]:
            self.house.undo()
            return []
        if words == ["list"]:
            return [self._described(name) for name in self.house.traveller_names()]
        if words == ["journal"]:
            return [write_entry(entry) for entry in self.house.journal()]
        return self._tell(words)

    def _tell(self, words):
        """The lines that tell of one traveller."""
        if words[0] == "show" and len(words) == 2:
            return [self._described(words[1])] + write_form(self.house.present_form(words[1]))
        if words[0] == "origin" and len(words) == 2:
            return write_form(self.house.entry_form(words[1]))
        if words[0] == "ask" and len(words) > 3 and is_name(words[1]):
            rows = self.house.ask(words[1], _read_query(words[2:]))
            return [" ".join([write_value(value) for value in key] + [str(number)]) for key, number in rows]
        raise InvalidText("the line is not one that a desk reads")

    def _described(self, name):
        """The line that tells where the traveller stands and whether it is stopped."""
        outcome, told = self.house.outcome(name)
        words = [name, self.house.where(name), outcome]
        if outcome == "stopped":
            words.append(told)
        return " ".join(words)

    def run_all(self, lines):
        """Runs the lines and returns their answers; if one raises an error, the house stays as it was."""
        with self.house.trial():
            return [self.run(line) for line in lines]


def _read_query(words):
    """The query that is written with these words, of which there are at least two."""
    if words[0] == "rows":
        return ("rows", read_number(words[1]), _read_groups(words[2:]))
    if words[0] == "most" and len(words) > 2 and is_name(words[2]):
        return ("most", read_number(words[1]), words[2], _read_groups(words[3:]))
    raise InvalidText("a query asks for rows or for the most")


def _read_groups(words):
    return tuple([_read_group(word) for word in words])


def _read_group(word):
    column, _, kind = word.partition(":")
    if kind != UNKNOWN and not is_name(kind):
        raise InvalidText("a group is written as a column and a kind")
    return (read_number(column), kind)
