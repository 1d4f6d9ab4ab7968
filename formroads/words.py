"""Names, numbers and lines."""

from formroads.errors import InvalidName, InvalidText

_LONGEST_NAME = 8
_MOST_DIGITS = 6


def is_name(text):
    """True if the text has 1 to 8 letters from a to z."""
    return 1 <= len(text) <= _LONGEST_NAME and all(["a" <= letter <= "z" for letter in text])


def check_name(text):
    """The text, if it is a name."""
    if not is_name(text):
        raise InvalidName("a name has 1 to 8 letters from a to z")
    return text


def read_number(text):
    """The number that the text writes."""
    if not 1 <= len(text) <= _MOST_DIGITS or not all(["0" <= digit <= "9" for digit in text]):
        raise InvalidText("a number has 1 to 6 digits")
    if text[0] == "0" and text != "0":
        raise InvalidText("a number has no leading zero")
    return int(text)


def split_words(line):
    """The words of a line, which are separated by exactly one space."""
    words = line.split(" ")
    if "" in words:
        raise InvalidText("a line is made of words with one space between them")
    return words
