"""Rows of choices, and numbers within bounds, as they are passed."""

from rightstate.errors import BadChoices, NoNumber
from rightstate.forms import is_integer, is_number, is_row

MOST_STEPS = 2000


def check_choices(choices):
    """Refuses what is no row of integers from 0 on."""
    if not is_row(choices):
        raise BadChoices(-1)
    for index, choice in enumerate(choices):
        if not is_integer(choice) or choice < 0:
            raise BadChoices(index)


def check_number(value, least, most):
    """Refuses what is no integer within these bounds."""
    if not is_number(value, least, most):
        raise NoNumber(value)


def check_most(most):
    """Refuses what is no number of steps that a run may have at most."""
    check_number(most, 1, MOST_STEPS)
