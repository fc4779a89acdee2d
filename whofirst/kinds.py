"""What counts as a number."""


def is_number(value):
    """Whether a value is a whole number."""
    # Python takes True and False for 1 and 0, the document for no numbers.
    return isinstance(value, int) and not isinstance(value, bool)


def is_below(value, bound):
    """Whether a value is one of the numbers from 0 that are less than the bound."""
    return is_number(value) and 0 <= value and value < bound
