"""What the other files ask of values of any kind.

The kinds are compared exactly: True and False are no integers, and an object
of a kind beneath tuple or int might tell its own length, order or equality.
"""


def is_number(value, low, high):
    """Tell whether the value is an integer from low to high."""
    return type(value) is int and low <= value <= high


def is_tuple(value, least, most):
    """Tell whether the value is a tuple of that many things."""
    return type(value) is tuple and least <= len(value) <= most


def are_numbers(value, many, low, high):
    """Tell whether the value is a tuple of just so many integers from low to high."""
    return is_tuple(value, many, many) and all([is_number(item, low, high) for item in value])


def is_ascending(things):
    """Tell whether things of one kind stand in ascending order, all unlike."""
    return all([first < second for first, second in zip(things, things[1:])])
