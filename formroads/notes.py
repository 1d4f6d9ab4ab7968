"""Notes of scripts: which of the start forms with one result a form is."""

from formroads.choices import leaf_choices
from formroads.errors import InvalidForm, Unreached
from formroads.forms import check_form, form_of, outline_of
from formroads.notecodes import chosen_by, note_of, numbered_note, sizes_of
from formroads.rules import Rules, rules_of


def script_note(regrouping, rules, form):
    """The note of a start form."""
    check_form(form, regrouping.before)
    if not Rules((), rules.parted).within(rules_of(form, regrouping.before)):
        raise InvalidForm("the form breaks a parted rule")
    leaves = leaf_choices(regrouping, rules, regrouping(form))
    return note_of(_choices_of(leaves), [branch for branch, _ in outline_of(form)])


def restore(regrouping, rules, result, note):
    """The start form that has this result and this note."""
    leaves = leaf_choices(regrouping, rules, result)
    return _start_form(leaves, chosen_by(_choices_of(leaves), note))


def note_count(regrouping, rules, result):
    """The number of the start forms that obey the parted rules and lead to the result."""
    try:
        leaves = leaf_choices(regrouping, rules, result)
    except Unreached:
        return 0
    count = 1
    for size in sizes_of(_choices_of(leaves)):
        count = count * size
    return count


def origins(regrouping, rules, result, *, most=None):
    """Yields these start forms in the order of the numbers of their notes."""
    count = note_count(regrouping, rules, result)
    if most is not None:
        count = min(count, most)
    if count > 0:
        leaves = leaf_choices(regrouping, rules, result)
        lists = _choices_of(leaves)
        for number in range(count):
            yield _start_form(leaves, chosen_by(lists, numbered_note(sizes_of(lists), number)))


def _choices_of(leaves):
    return [choices for _, choices in leaves]


def _start_form(leaves, branches):
    return form_of([(branch, path) for branch, (path, _) in zip(branches, leaves)])

