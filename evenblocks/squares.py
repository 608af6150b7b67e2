"""Squares of letters, and how they are laid over one another.

A square is a list of rows, lists of letters; each letter stands once in each row and in each column.
"""

from evenblocks.errors import NoSize, NoSquare, Unlike
from evenblocks.fields import field_of, least_factor

LEAST = 2
GREATEST = 30


def checked_square(rows):
    """True for a square; else refuses with NoSquare."""
    size = len(rows)
    letters = list(range(size))
    if size == 0:
        raise NoSquare("a square has a row or more")
    for row in rows:
        if sorted(row) != letters:
            raise NoSquare("a row has not each letter once")
    for column in range(size):
        if sorted([row[column] for row in rows]) != letters:
            raise NoSquare("a column has not each letter once")
    return True


def same_pair(one, other):
    """The first place with two letters of an earlier one, behind that one; None for squares laid over evenly."""
    if len(one) != len(other):
        raise Unlike("the squares are of unlike sizes")
    found = {}
    for row in range(len(one)):
        for column in range(len(one)):
            letters = (one[row][column], other[row][column])
            if letters in found:
                return found[letters] + (row, column)
            found[letters] = (row, column)
    return None


def field_squares(order):
    """The squares of the field of that order, one for each thing but 0; refused with NoField as field_of."""
    field = field_of(order)
    return [field_square(field, factor) for factor in range(1, order)]


def field_square(field, factor):
    """The square with factor times i plus j at (i, j)."""
    rows = []
    for i in range(field.order):
        start = field.times(factor, i)
        rows.append([field.plus(start, j) for j in range(field.order)])
    return rows


def crossed(one, other):
    """The square in which a copy of the other one stands for each letter of the first of the two."""
    size = len(other)
    rows = []
    for upper in one:
        for lower in other:
            rows.append([letter * size + inner for letter in upper for inner in lower])
    return rows


def many_squares(size):
    """Squares of that size, each two laid over evenly, by its powers of primes; refused with NoSize."""
    if size < LEAST or size > GREATEST:
        raise NoSize("no squares of that size are told here")
    powers = prime_powers(size)
    squares = field_squares(powers[0])
    for power in powers[1:]:
        # The shorter of the two lists tells how many there are: the least power less one.
        squares = [crossed(one, other) for one, other in zip(squares, field_squares(power))]
    return squares


def prime_powers(number):
    """The powers of unlike primes whose product a number from 2 on is, by rising primes."""
    powers = []
    while number > 1:
        prime = least_factor(number)
        power = 1
        while number % prime == 0:
            number //= prime
            power *= prime
        powers.append(power)
    return powers
