"""The writing of steps."""

from formroads.errors import InvalidText
from formroads.words import read_number, split_words


def write_step(step):
    """The line of a step."""
    words = [step[0], str(step[1])]
    if step[0] == "nest":
        words.append(",".join([str(column) for column in step[2]]))
    return " ".join(words)


def read_step(line):
    """The step that the line writes."""
    words = split_words(line)
    if words[0] == "nest" and len(words) == 3:
        return ("nest", read_number(words[1]), _read_columns(words[2]))
    if words[0] == "unnest" and len(words) == 2:
        return ("unnest", read_number(words[1]))
    raise InvalidText("a step is written as nest, a level and columns or as unnest and a level")


def _read_columns(word):
    columns = [read_number(column) for column in word.split(",")]
    if columns != sorted(set(columns)):
        raise InvalidText("columns are in ascending order, and each stands there once")
    return tuple(columns)
