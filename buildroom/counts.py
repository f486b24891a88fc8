"""Integers within bounds, and rows that ascend."""


def is_from_to(value, least, most):
    """Whether any value is an integer from least to most; True and False are none."""
    return isinstance(value, int) and not isinstance(value, bool) and least <= value <= most


def are_ascending(row):
    """Whether each thing of a row is above the one ahead."""
    return all([one < two for one, two in zip(row, row[1:])])
