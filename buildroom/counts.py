"""Integers within bounds."""


def is_from_to(value, least, most):
    """Whether any value is an integer from least to most; True and False are none."""
    return isinstance(value, int) and not isinstance(value, bool) and least <= value <= most
