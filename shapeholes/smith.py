"""The normal form of a matrix of integers, with the squares that lead to it."""

from shapeholes.matrices import check_matrix, width_of


class Reduction:
    """A matrix on its way to its normal form.

    Rows are dicts from columns to the numbers other than 0. The left square is kept by rows and
    the right one by columns, so that each step adds whole dicts. Each pivot is a triple: a row, a
    column and the number that alone is left in both."""

    def __init__(self, rows):
        self.rows = [sparse(row) for row in rows]
        self.left = [{k: 1} for k in range(len(rows))]
        self.right = [{k: 1} for k in range(width_of(rows))]
        self.pivots = []

    def isolate(self):
        """Make pivots until all other rows are empty."""
        waiting = list(range(len(self.rows)))
        while True:
            spot = self.least_spot(waiting)
            if spot is None:
                return
            row, column = self.cleared(waiting, spot[0], spot[1])
            self.pivots.append((row, column, self.rows[row][column]))
            waiting.remove(row)

    def least_spot(self, waiting):
        """A row and a column with a number of least size, and few others beside it."""
        heights = {}
        for row in waiting:
            for column in self.rows[row]:
                heights[column] = heights.get(column, 0) + 1
        least = min([abs(number) for row in waiting for number in self.rows[row].values()], default=0)
        spots = [((len(self.rows[row]) - 1) * (heights[column] - 1), row, column)
                 for row in waiting for column, number in self.rows[row].items() if abs(number) == least]
        return min(spots)[1:] if spots else None

    def cleared(self, waiting, row, column):
        """Where a number is alone in its row and column; the search for it begins at a spot."""
        while True:
            rest = self.clear_column([other for other in waiting if other != row], row, column)
            if rest is not None:
                row = rest
                continue
            # Now the column has no other number, so that clearing the row changes this row only.
            rest = self.clear_row(row, column)
            if rest is None:
                return row, column
            column = rest

    def clear_column(self, others, row, column):
        """The row of the least remainder in a column, None if all are 0."""
        pivot = self.rows[row][column]
        for other in others:
            factor = nearest(self.rows[other].get(column, 0), pivot)
            add_multiple(self.rows[other], self.rows[row], -factor)
            add_multiple(self.left[other], self.left[row], -factor)
        rests = [(abs(self.rows[other][column]), other)
                 for other in others if column in self.rows[other]]
        return min(rests)[1] if rests else None

    def clear_row(self, row, column):
        """The column of the least remainder in a row, None if all are 0."""
        numbers = self.rows[row]
        others = [k for k in numbers if k != column]
        for other in others:
            factor = nearest(numbers[other], numbers[column])
            add_multiple(numbers, {other: numbers[column]}, -factor)
            add_multiple(self.right[other], self.right[column], -factor)
        rests = [(abs(numbers[other]), other) for other in numbers if other != column]
        return min(rests)[1] if rests else None


class Diagonal:
    """The pivots of a reduction, and the squares ordered like them."""

    def __init__(self, reduction):
        pivots = reduction.pivots
        self.numbers = [pivot[2] for pivot in pivots]
        self.left = ordered(reduction.left, [pivot[0] for pivot in pivots])
        self.right = ordered(reduction.right, [pivot[1] for pivot in pivots])

    def mend(self):
        """Make the numbers positive, and each one divide the next one."""
        for k in range(len(self.numbers)):
            if self.numbers[k] < 0:
                self.numbers[k] = -self.numbers[k]
                self.left[k] = scaled(self.left[k], -1)
        for low in range(len(self.numbers)):
            for high in range(low + 1, len(self.numbers)):
                if self.numbers[high] % self.numbers[low]:
                    self.mend_pair(low, high)

    def mend_pair(self, low, high):
        """Replace two numbers by their greatest common divisor and their least common multiple."""
        small, great = self.numbers[low], self.numbers[high]
        divisor, first, second = bezout(small, great)
        add_multiple(self.left[low], self.left[high], 1)
        add_multiple(self.left[high], self.left[low], -(second * great // divisor))
        one, other = self.right[low], self.right[high]
        self.right[low] = scaled(one, first)
        add_multiple(self.right[low], other, second)
        self.right[high] = scaled(other, small // divisor)
        add_multiple(self.right[high], one, -(great // divisor))
        self.numbers[low] = divisor
        self.numbers[high] = small // divisor * great


def smith(rows):
    check_matrix(rows)
    height, width = len(rows), width_of(rows)
    reduction = Reduction(rows)
    reduction.isolate()
    diagonal = Diagonal(reduction)
    diagonal.mend()
    middle = [{k: diagonal.numbers[k]} for k in range(len(diagonal.numbers))]
    middle = middle + [{} for _ in range(height - len(middle))]
    columns = [dense(column, width) for column in diagonal.right]
    left = tuple([dense(row, height) for row in diagonal.left])
    right = tuple([tuple([column[k] for column in columns]) for k in range(width)])
    return left, tuple([dense(row, width) for row in middle]), right


def factors_of(middle):
    """The numbers other than 0 of the middle one of the three matrices of smith."""
    return [row[k] for k, row in enumerate(middle) if k < len(row) and row[k]]


def solution_of(rows, wanted):
    """Integers whose products with each row add up to the wanted ones, None if there are none."""
    left, middle, right = smith(rows)
    moved = [product_of(row, wanted) for row in left]
    factors = factors_of(middle)
    if any(moved[len(factors):]) or any([moved[k] % factors[k] for k in range(len(factors))]):
        return None
    parts = [moved[k] // factors[k] for k in range(len(factors))]
    return [product_of(row[:len(parts)], parts) for row in right]


def product_of(one, other):
    return sum([mine * its for mine, its in zip(one, other)])


def sparse(row):
    return {k: row[k] for k in range(len(row)) if row[k]}


def dense(numbers, width):
    return tuple([numbers.get(k, 0) for k in range(width)])


def ordered(items, first):
    """A list with the items of some indexes first, in their order, then the others."""
    return [items[k] for k in first] + [items[k] for k in range(len(items)) if k not in first]


def scaled(numbers, factor):
    return {k: factor * numbers[k] for k in numbers if factor}


def add_multiple(target, source, factor):
    """Change a dict of numbers other than 0 by the multiple of another one."""
    if not factor:
        return
    for k in source:
        number = target.get(k, 0) + factor * source[k]
        if number:
            target[k] = number
        else:
            del target[k]


def nearest(number, divisor):
    """The quotient that leaves a remainder of least size, which keeps numbers small."""
    return (2 * number + divisor) // (2 * divisor)


def bezout(one, other):
    """(divisor, a, b): the greatest common divisor of two, and a * one + b * other equal to it."""
    first, second = (one, 1, 0), (other, 0, 1)
    while second[0]:
        factor = first[0] // second[0]
        first, second = second, tuple([mine - factor * its for mine, its in zip(first, second)])
    return first
