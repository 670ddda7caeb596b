"""Matrices of integers: what is one, and its rows and columns."""

from shapeholes.errors import BadMatrix
from shapeholes.simplices import is_integer

MOST_ROWS = 400
MOST_COLUMNS = 400


def check_matrix(rows):
    if not isinstance(rows, tuple) or len(rows) > MOST_ROWS:
        raise BadMatrix(f"a tuple of at most {MOST_ROWS} rows is needed")
    for row in rows:
        if not isinstance(row, tuple) or len(row) > MOST_COLUMNS:
            raise BadMatrix(f"a row is a tuple of at most {MOST_COLUMNS} integers")
        if len(row) != len(rows[0]) or not all([is_integer(number) for number in row]):
            raise BadMatrix("rows have one length, and integers only")


def width_of(rows):
    """The number of columns; without rows there is none."""
    return len(rows[0]) if rows else 0


def columns_of(rows):
    return [[row[k] for row in rows] for k in range(width_of(rows))]
