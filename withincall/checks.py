"""What several modules ask of plain values."""

from withincall.errors import NotFound, TooLarge

# The functions that go through all of something go through no more.
MOST_CASES = 20000


def is_between(value, low, high):
    """True if the value is an integer from low to high. True and False are no integers."""
    return isinstance(value, int) and not isinstance(value, bool) and low <= value <= high


def check_number(value, many):
    """Raise NotFound if the value is not an integer from 0 to many - 1."""
    if not is_between(value, 0, many - 1):
        raise NotFound(value)


def check_product(factors):
    """Raise TooLarge if the product of the factors is more than the most cases."""
    size = 1
    for factor in factors:
        size *= factor
    if size > MOST_CASES:
        raise TooLarge(size, MOST_CASES)
