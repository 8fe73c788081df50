"""Tuples of rows (number, thing), numbers rising, none twice: by days or by weeks."""


def rows_to(rows, number):
    """How many of the rows have a number that isn't above this one."""
    low = 0
    high = len(rows)
    while low < high:
        middle = (low + high) // 2
        if rows[middle][0] <= number:
            low = middle + 1
        else:
            high = middle
    return low


def has_row(rows, number):
    """Whether one of the rows is of this very number."""
    return rows_to(rows, number) > rows_to(rows, number - 1)


def rows_around(rows, number):
    """The rows of the numbers below this one, and those of the numbers above it."""
    return rows[:rows_to(rows, number - 1)], rows[rows_to(rows, number):]


def with_row(rows, number, thing):
    """The rows with one of this number, in the place of one of this very number."""
    ahead, later = rows_around(rows, number)
    return ahead + ((number, thing),) + later


def without_row(rows, number):
    """The rows without the one of this number."""
    ahead, later = rows_around(rows, number)
    return ahead + later
