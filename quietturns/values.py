"""What kind of value something is; every function here takes any value."""

LONGEST_NAME = 8


def is_integer(value):
    """Whether this is an integer."""
    # True and False are ints for Python, but no integers here.
    return isinstance(value, int) and not isinstance(value, bool)


def is_integer_from(value, least):
    """Whether this is an integer, and not below least."""
    return is_integer(value) and value >= least


def is_tuple_of(value, many):
    """Whether this is a tuple with so many items."""
    return isinstance(value, tuple) and len(value) == many


def is_name(value):
    """Whether this is a name: a string of 1 to 8 letters from a to z."""
    if not isinstance(value, str) or not 1 <= len(value) <= LONGEST_NAME:
        return False
    # islower and isalpha would let letters beyond z through.
    return all(["a" <= letter <= "z" for letter in value])


def is_rising(values):
    """Whether each of these values, which can be compared, is below the one after it."""
    return all([low < high for low, high in zip(values, values[1:])])
