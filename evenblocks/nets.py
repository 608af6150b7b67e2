"""Nets: the places of a square in days, its rows, its columns and the letters of squares laid over it."""

from evenblocks.errors import NoNet, NoSize, Unlike
from evenblocks.squares import same_pair

LEAST = 2
GREATEST = 14


def net_days(size, squares):
    """The days of the rows, of the columns, and of each square's letters; refused with NoSize, then with Unlike."""
    check_size(size)
    check_squares(size, squares)
    rows = [[row] * size for row in range(size)]
    columns = [list(range(size)) for row in range(size)]
    return [day_of(size, letters) for letters in [rows, columns] + squares]


def check_size(size):
    """Refuses with NoSize a size for which there are no nets here."""
    if size < LEAST or size > GREATEST:
        raise NoSize("there are no nets of that size here")


def check_squares(size, squares):
    """Refuses with Unlike squares that make no net of that size."""
    for square in squares:
        if len(square) != size:
            raise Unlike("a square is of another size than the net")
    for number, one in enumerate(squares):
        for other in squares[:number]:
            if same_pair(one, other) is not None:
                raise Unlike("two squares are not laid over evenly")


def day_of(size, letters):
    """For each letter the block of the places that have it."""
    day = [[] for letter in range(size)]
    for row in range(size):
        for column in range(size):
            day[letters[row][column]].append(row * size + column)
    return [tuple(block) for block in day]


def net(size, squares):
    """The plan of the places with the blocks of all days; refused as net_days."""
    blocks = []
    for day in net_days(size, squares):
        blocks.extend(day)
    return (size * size, sorted(blocks))


def squares_by(size, days):
    """The squares by which a net has these days, the first two for rows and columns; refused with NoSize and NoNet."""
    check_size(size)
    for day in days:
        check_day(size, day)
    homes = [homes_of(size, day) for day in days]
    for number, one in enumerate(homes):
        for other in homes[:number]:
            check_crossing(size, one, other)
    return [square_of(size, homes[0], homes[1], home) for home in homes[2:]]


def check_day(size, day):
    """Refuses with NoNet what isn't size rising blocks in which each thing stands once."""
    things = []
    for block in day:
        if list(block) != sorted(block):
            raise NoNet("a block is not rising")
        things.extend(block)
    if len(day) != size or sorted(things) != list(range(size * size)):
        raise NoNet("on a day each thing stands once, in one of size blocks")


def homes_of(size, day):
    """For each thing the number of its block on that day."""
    homes = [0] * (size * size)
    for number, block in enumerate(day):
        for thing in block:
            homes[thing] = number
    return homes


def check_crossing(size, one, other):
    """Refuses with NoNet two days, by their homes, of which two blocks have not just one thing in common."""
    # There are as many things as pairs of blocks: where no two things share a pair, each pair has one.
    if len({pair for pair in zip(one, other)}) != size * size:
        raise NoNet("two blocks of two days have not just one thing in common")


def square_of(size, rows, columns, letters):
    """The square whose letter, row and column at a thing are its homes on three days."""
    square = [[0] * size for row in range(size)]
    for row, column, letter in zip(rows, columns, letters):
        square[row][column] = letter
    return square
