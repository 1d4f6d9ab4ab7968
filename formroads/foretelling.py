"""Answers about the form that a form will become."""

from formroads.queries import answer, check_query


def answer_ahead(summary, query, form):
    """The outcome of the form, with the answer about the result in place of the result."""
    check_query(summary.end, query)
    outcome, told = summary(form)
    if outcome == "stopped":
        return (outcome, told)
    return (outcome, answer(summary.end, query, told))
