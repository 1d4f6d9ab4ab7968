"""The writing of values, kind books, schemas and forms."""

from formroads.errors import InvalidText
from formroads.forms import form_of_rows, rows_of
from formroads.kinds import Kindbook, UNKNOWN
from formroads.rules import Rules
from formroads.schemas import Schema
from formroads.words import is_name, read_number, split_words

_NO_RULES = "-"


def write_value(value):
    """The text of a value: its kind, a colon and its number."""
    kind, number = value
    return f"{kind}:{number}"


def read_value(text):
    """The value that the text writes."""
    kind, colon, number = text.partition(":")
    if not colon or not is_name(kind):
        raise InvalidText("a value is a name, a colon and a number")
    return (kind, read_number(number))


def write_book(book):
    """The lines of a kind book, one for each kind."""
    return [_write_record(book, name) for name in book]


def _write_record(book, name):
    words = [name, str(book.size_of(name))]
    if book.parent_of(name) is not None:
        words.append(book.parent_of(name))
    return " ".join(words + [str(lead) for lead in book.leads_of(name)])


def read_book(lines):
    """A new kind book from its lines."""
    return Kindbook([_read_record(line) for line in lines])


def _read_record(line):
    words = split_words(line)
    if len(words) < 2:
        raise InvalidText("the line of a kind has two or more words")
    parent = words[2] if len(words) > 2 else None
    return (words[0], read_number(words[1]), parent, tuple([read_number(word) for word in words[3:]]))


def write_schema(schema):
    """The line of a schema: its shape, its kinds and its rules."""
    levels = [",".join([str(column) for column in level]) for level in schema.shape]
    return " ".join(["/".join(levels), ",".join(schema.kinds), _write_rules(schema.rules)])


def read_schema(book, line):
    """A new schema over the book from its line."""
    words = split_words(line)
    if len(words) != 3:
        raise InvalidText("a schema is written as three words")
    kinds = words[1].split(",")
    if not all([kind == UNKNOWN or is_name(kind) for kind in kinds]):
        raise InvalidText("a kind is a name or unknown")
    return Schema(book, _read_shape(words[0]), kinds, _read_rules(words[2]))


def _read_shape(word):
    return tuple([tuple([read_number(column) for column in level.split(",")]) for level in word.split("/")])


def _write_rules(rules):
    return ",".join([f"{word[0]}{level}" for word, level in rules.named()]) or _NO_RULES


def _read_rules(word):
    if word == _NO_RULES:
        return Rules()
    levels = {"f": [], "p": []}
    for part in word.split(","):
        if part[:1] not in levels:
            raise InvalidText("a rule is a letter f or p and a level")
        levels[part[0]].append(read_number(part[1:]))
    rules = Rules(levels["f"], levels["p"])
    if _write_rules(rules) != word:
        raise InvalidText("rules are in order, and each stands there once")
    return rules


def write_form(form):
    """The lines of a form, one for each row."""
    return [" ".join([str(level)] + [write_value(value) for value in cells]) for level, cells in rows_of(form)]


def read_form(lines):
    """The form that the lines write."""
    return form_of_rows([_read_row(line) for line in lines])


def _read_row(line):
    words = split_words(line)
    if len(words) < 2:
        raise InvalidText("the line of a row has a level and at least one value")
    return (read_number(words[0]), tuple([read_value(word) for word in words[1:]]))
