"""Repair of one text: cheapest scripts, and lower bounds that show that there is no cheaper one."""

from formatrepair.prices import require_format_over, require_prices, require_text_over
from formatrepair.searches import cheapest_way, format_table, is_lower_bound, least_costs, text_table


def cheapest_script(prices, source, target):
    """Return the cost of a cheapest script from one text to another one and such a script, or None."""
    require_texts(prices, source, target)
    return cheapest_way(prices, text_table(source), text_table(target))


def remaining_costs(prices, source, target):
    """Return the rows of the costs of the cheapest scripts from source[i:] to target[j:]."""
    require_texts(prices, source, target)
    return least_costs(prices, text_table(source), text_table(target))


def is_remaining(prices, source, target, value):
    """Return whether the value is a list of rows of lower bounds for remaining_costs."""
    require_texts(prices, source, target)
    return is_lower_bound(prices, text_table(source), text_table(target), value)


def require_texts(prices, source, target):
    """Raise what is wrong with prices and two texts over their alphabet."""
    require_prices(prices)
    require_text_over(prices, source)
    require_text_over(prices, target)


def repair(prices, text, text_format):
    """Return the cost of repairing a text into a format and a script of this cost, or None."""
    require_text_and_format(prices, text, text_format)
    return cheapest_way(prices, text_table(text), format_table(text_format))


def remaining_repairs(prices, text, text_format):
    """Return the rows of the least costs of scripts from text[i:] to acceptance from state q."""
    require_text_and_format(prices, text, text_format)
    return least_costs(prices, text_table(text), format_table(text_format))


def is_remaining_repair(prices, text, text_format, value):
    """Return whether the value is a list of rows of lower bounds for remaining_repairs."""
    require_text_and_format(prices, text, text_format)
    return is_lower_bound(prices, text_table(text), format_table(text_format), value)


def require_text_and_format(prices, text, text_format):
    """Raise what is wrong with prices, a text and a format over their alphabet."""
    require_prices(prices)
    require_text_over(prices, text)
    require_format_over(prices, text_format)


def closest(prices, one, other):
    """Return the least cost of a script from a text of one format to a text of another, and such a script, or None."""
    require_prices(prices)
    require_format_over(prices, one)
    require_format_over(prices, other)
    return cheapest_way(prices, format_table(one), format_table(other))
