"""Cost matrices of texts for the states of a format, and their shapes."""

from formatrepair.basics import is_grid, is_index, is_letter, is_list
from formatrepair.costs import cost_sum, is_cost
from formatrepair.errors import InvalidLetter, InvalidMatrix, NotStable
from formatrepair.prices import require_format_over, require_known, require_prices, require_text_over
from formatrepair.searches import least_costs, text_table

FREE = 0
SOME = 1
GROWING = 2
NEVER = 3


def text_matrix(prices, text_format, text):
    """Return the least costs of scripts from a text to a text that leads the format from i to j."""
    require_prices(prices)
    require_format_over(prices, text_format)
    require_text_over(prices, text)
    return cost_matrix(prices, text_format, text)


def letter_matrix(prices, text_format, letter):
    """Return the matrix of the text of one letter."""
    require_prices(prices)
    require_format_over(prices, text_format)
    if not is_letter(letter):
        raise InvalidLetter(letter)
    require_known(prices, [letter])
    return cost_matrix(prices, text_format, letter)


def insertion_matrix(prices, text_format):
    """Return the matrix of the empty text."""
    require_prices(prices)
    require_format_over(prices, text_format)
    return cost_matrix(prices, text_format, "")


def cost_matrix(prices, text_format, text):
    """Return the matrix of a text; each column is that of a table in which only its state accepts."""
    rows = text_format.rows()
    columns = [least_costs(prices, text_table(text), (rows, [end]))[0] for end in range(len(rows))]
    return flipped(columns)


def flipped(matrix):
    """Return the matrix with the item [i][j] at [j][i]."""
    return [list(line) for line in zip(*matrix)]


def is_square(value):
    """Return whether the value is a list of as many rows as each of them has items."""
    return is_list(value) and is_grid(value, len(value), len(value))


def require_cost_matrix(value):
    """Raise InvalidMatrix if the value is not a cost matrix."""
    if not is_square(value) or not all([is_cost(item) for row in value for item in row]):
        raise InvalidMatrix(value)


def is_shape(value):
    """Return whether the value is a shape."""
    return is_square(value) and all([is_index(item, NEVER + 1) for row in value for item in row])


def require_shape(value):
    """Raise InvalidMatrix if the value is not a shape."""
    if not is_shape(value):
        raise InvalidMatrix(value)


def require_same_size(one, other):
    """Raise InvalidMatrix with the other matrix if it has not the size of the one."""
    if len(one) != len(other):
        raise InvalidMatrix(other)


def multiply_costs(one, other):
    """Return the product of two cost matrices of the same size."""
    require_cost_matrix(one)
    require_cost_matrix(other)
    require_same_size(one, other)
    columns = flipped(other)
    return [[least_sum(row, column) for column in columns] for row in one]


def least_sum(row, column):
    """Return the least sum of an item of a row and the item of a column at the same place."""
    sums = [cost_sum(here, there) for here, there in zip(row, column)]
    return min([item for item in sums if item is not None], default=None)


def shape_of(matrix):
    """Return the shape of a cost matrix."""
    require_cost_matrix(matrix)
    return [[shape_item(item) for item in row] for row in matrix]


def shape_item(cost):
    """Return what a shape has for a cost."""
    if cost is None:
        return NEVER
    return SOME if cost > 0 else FREE


def multiply_shapes(one, other):
    """Return the product of two shapes of the same size."""
    require_shape(one)
    require_shape(other)
    require_same_size(one, other)
    return shape_product(one, other)


def shape_product(one, other):
    """Return the product of two shapes that are known to be such."""
    columns = flipped(other)
    return [[least_greater(row, column) for column in columns] for row in one]


def least_greater(row, column):
    """Return the least of the greater ones of an item of a row and the item of a column at the same place."""
    return min([max(here, there) for here, there in zip(row, column)])


def is_stable(shape):
    """Return whether a shape equals its product with itself."""
    require_shape(shape)
    return is_stable_shape(shape)


def is_stable_shape(shape):
    """Return whether what is known to be a shape is stable."""
    columns = flipped(shape)
    for row in shape:
        if [least_greater(row, column) for column in columns] != list(row):
            return False
    return True


def grow(shape):
    """Return the shape of endless repetition of a stable shape."""
    if not is_stable(shape):
        raise NotStable(shape)
    return grown_shape(shape)


def grown_shape(shape):
    """Return the shape of endless repetition of what is known to be a stable shape."""
    repeats = [GROWING if row[state] == SOME else row[state] for state, row in enumerate(shape)]
    return shape_product([[max(item, repeat) for item, repeat in zip(row, repeats)] for row in shape], shape)
