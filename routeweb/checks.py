"""Checks of plain values that several modules share."""

from routeweb.errors import NotText


def is_number(value, low, high):
    """Whether a value is an integer from low to high."""
    # Python counts True and False as integers, the document does not.
    return isinstance(value, int) and not isinstance(value, bool) and low <= value <= high


def is_tuple(value, least, most):
    """Whether a value is a tuple with at least and at most so many items."""
    return isinstance(value, tuple) and least <= len(value) <= most


def are_numbers(value, low, high):
    """Whether a value is a tuple, perhaps empty, of integers from low to high."""
    return isinstance(value, tuple) and all([is_number(item, low, high) for item in value])


def are_unlike(values):
    """Whether none of the values, numbers or tuples of such, stands twice."""
    return len(set(values)) == len(values)


def check_text(text):
    """Raise NotText for a value that is no string."""
    if not isinstance(text, str):
        raise NotText("no string")
