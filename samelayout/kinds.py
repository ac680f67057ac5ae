"""What kind of value an argument is."""


def is_integer_within(value, low, high):
    """Whether any value is an integer from low to high."""
    # A bool is an int to Python, but not an integer to this package.
    return isinstance(value, int) and not isinstance(value, bool) and low <= value <= high


def are_integers_within(value, low, high):
    """Whether any value is a tuple of integers from low to high."""
    return isinstance(value, tuple) and all([is_integer_within(item, low, high) for item in value])
