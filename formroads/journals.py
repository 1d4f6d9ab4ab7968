"""The writing of the entries of journals."""

from formroads.errors import InvalidText
from formroads.kinds import UNKNOWN
from formroads.stepwords import read_step, write_step
from formroads.words import is_name, split_words
from formroads.writing import read_form, write_form

ENTRY_WORDS = ("enter", "leave", "move", "back", "kinds", "steps")
_BETWEEN = "/"


def write_entry(entry):
    """The line of an entry."""
    word = entry[0]
    if word == "enter":
        return _with_lines(entry[:3], write_form(entry[3]))
    if word == "steps":
        return _with_lines(entry[:2], [write_step(step) for step in entry[2]])
    if word == "kinds":
        return " ".join([word, entry[1], ",".join(entry[2])])
    return " ".join(entry)


def _with_lines(words, lines):
    """The words, and behind them the lines, separated by a word of their own."""
    written = list(words)
    if lines:
        written.append(f" {_BETWEEN} ".join(lines))
    return " ".join(written)


def read_entry(line):
    """The entry that the line writes."""
    words = split_words(line)
    if words[0] == "enter" and len(words) >= 3:
        return ("enter", _read_name(words[1]), _read_name(words[2]), read_form(_lines_of(words[3:])))
    if words[0] in ("leave", "back") and len(words) == 2:
        return (words[0], _read_name(words[1]))
    if words[0] == "move" and len(words) == 3:
        return ("move", _read_name(words[1]), _read_name(words[2]))
    if words[0] == "kinds" and len(words) == 3:
        return ("kinds", _read_name(words[1]), _read_kinds(words[2]))
    if words[0] == "steps" and len(words) >= 2:
        return ("steps", _read_name(words[1]), tuple([read_step(step) for step in _lines_of(words[2:])]))
    raise InvalidText("an entry is written with its words in order")


def _read_name(word):
    if not is_name(word):
        raise InvalidText("a traveller, an office and a way have names")
    return word


def _read_kinds(word):
    kinds = word.split(",")
    if not all([kind == UNKNOWN or is_name(kind) for kind in kinds]):
        raise InvalidText("a kind is a name or unknown")
    return tuple(kinds)


def _lines_of(words):
    """The lines that the words make, if there are any words."""
    if not words:
        return []
    lines = [[]]
    for word in words:
        if word == _BETWEEN:
            lines.append([])
        else:
            lines[-1].append(word)
    return [" ".join(line) for line in lines]
