"""What several modules ask of a plain value."""

from withincall.errors import NotFound


def is_between(value, low, high):
    """True if the value is an integer from low to high. True and False are no integers."""
    return isinstance(value, int) and not isinstance(value, bool) and low <= value <= high


def check_number(value, many):
    """Raise NotFound if the value is not an integer from 0 to many - 1."""
    if not is_between(value, 0, many - 1):
        raise NotFound(value)
