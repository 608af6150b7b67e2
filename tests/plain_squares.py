"""Squares word by word from the document, and squares for the tests."""

from itertools import permutations, product

from tests.plain_fields import ORDERS, plain_field

# By hand: the powers of unlike primes whose product a size is, by rising primes.
POWERS = {2: (2,), 3: (3,), 4: (4,), 5: (5,), 6: (2, 3), 7: (7,), 8: (8,), 9: (9,), 10: (2, 5), 11: (11,), 12: (4, 3),
          13: (13,), 14: (2, 7), 15: (3, 5), 16: (16,), 17: (17,), 18: (2, 9), 19: (19,), 20: (4, 5), 21: (3, 7),
          22: (2, 11), 23: (23,), 24: (8, 3), 25: (25,), 26: (2, 13), 27: (27,), 28: (4, 7), 29: (29,),
          30: (2, 3, 5)}


def rows_turned(size, step=1):
    """The square whose letter at (i, j) is the rest of step times i plus j, where step has no factor of size."""
    return [[(step * i + j) % size for j in range(size)] for i in range(size)]


def is_square(rows):
    letters = set(range(len(rows)))
    lines = rows + [list(column) for column in zip(*rows)]
    return all(len(line) == len(rows) and set(line) == letters for line in lines) and rows != []


def all_squares(size):
    """Every square of a size."""
    for rows in product(permutations(range(size)), repeat=size):
        if all(len(set(column)) == size for column in zip(*rows)):
            yield [list(row) for row in rows]


def laid_evenly(one, other):
    pairs = {(one[i][j], other[i][j]) for i, j in product(range(len(one)), repeat=2)}
    return len(pairs) == len(one) * len(one)


def plain_same_pair(one, other):
    places = list(product(range(len(one)), repeat=2))
    for later, (k, l) in enumerate(places):
        for i, j in places[:later]:
            if (one[i][j], other[i][j]) == (one[k][l], other[k][l]):
                return (i, j, k, l)
    return None


def plain_field_squares(order):
    field = plain_field(order)
    return [[[field.plus[field.times[a][i]][j] for j in range(order)] for i in range(order)] for a in range(1, order)]


def plain_crossed(one, other):
    n, m = len(one), len(other)
    rows = [[None] * (n * m) for _ in range(n * m)]
    for i, j in product(range(n), repeat=2):
        for k, l in product(range(m), repeat=2):
            rows[i * m + k][j * m + l] = one[i][j] * m + other[k][l]
    return rows


def plain_many_squares(size):
    told = []
    for s in range(min(POWERS[size]) - 1):
        square = None
        for power in POWERS[size]:
            more = plain_field_squares(power)[s]
            square = more if square is None else plain_crossed(square, more)
        told.append(square)
    return told


assert set(ORDERS) >= {power for powers in POWERS.values() for power in powers}
