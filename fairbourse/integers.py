"""Which values are integers."""


def is_integral(value):
    """Tell whether a value is an integer; True and False are none."""
    return isinstance(value, int) and not isinstance(value, bool)


def is_within(least, most, value):
    """Tell whether a value is an integer from `least` to `most`."""
    return is_integral(value) and least <= value <= most
