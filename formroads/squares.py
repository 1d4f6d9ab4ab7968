"""Whether a step and a border may be exchanged."""

from formroads.borders import check_targets
from formroads.steps import step_shape
from formroads.valuenotes import led_members


def square(schema, step, targets):
    """Tells whether both orders of the step and the border have the same outcome for every form."""
    step_shape(schema.shape, step)
    check_targets(schema, targets)
    if step[0] == "nest":
        return "merged" if _may_merge(schema, step, targets) else "alike"
    return "empty" if _may_stop_twice(schema, step[1], targets) else "alike"


def _may_merge(schema, step, targets):
    """True if rows that differ in a remaining column may have equal cells behind the border."""
    remaining = [column for column in schema.shape[step[1]] if column not in step[2]]
    return any([_leads_together(schema, targets, column) for column in remaining])


def _leads_together(schema, targets, column):
    led = [value for _, value in led_members(schema, targets, column)]
    return len(set(led)) < len(led)


def _may_stop_twice(schema, level, targets):
    """True if both the step and the border may stop a form."""
    if ("full", level) in schema.rules or not _may_stop(schema, targets):
        return False
    # Unless a row may stand beside another one, there is one leaf only, and either it is hollow or it goes on.
    return any([_may_have_two_rows(schema, number) for number in range(level + 1)])


def _may_stop(schema, targets):
    columns = range(len(schema.kinds))
    return any([len(led_members(schema, targets, column)) < len(schema.choices(column)) for column in columns])


def _may_have_two_rows(schema, level):
    """True if two rows of a table of the level may stand side by side."""
    if ("parted", level) not in schema.rules:
        return True
    return any([len(schema.choices(column)) > 1 for column in schema.shape[level]])
