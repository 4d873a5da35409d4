"""Costs: integers of at least 0, or None where there is no cost; None is greater than every integer."""

from formatrepair.basics import is_integer


def is_cost(value):
    """Return whether the value is an integer of at least 0 or None."""
    return value is None or (is_integer(value) and value >= 0)


def is_cheaper(cost, other):
    """Return whether the one cost is less than the other."""
    return cost is not None and (other is None or cost < other)


def cost_sum(cost, other):
    """Return the sum of two costs."""
    if cost is None or other is None:
        return None
    return cost + other
