"""Rows as they are answered: how many numbers they have, then these."""

from amounttexts.ratio import one_form


def row(numbers):
    return [len(numbers)] + numbers


# The row of a value in its one form.
def value_row(value):
    return row(one_form(value))
