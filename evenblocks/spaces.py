"""Spaces of rows of things of a small field: their lines, and their sheets.

A row is a list of digits, things of the field; its number is written by them to the base order, the least one first.
"""

from evenblocks.errors import NoPlane
from evenblocks.fields import digits_of, power_of
from evenblocks.planes import plane_field

LEAST_DEEP = 2
GREATEST_DEEP = 6
MOST_THINGS = 64


def space(order, deep):
    """The plan of the rows of deep things of the field; its blocks are the lines."""
    field = plane_field(order)
    many = how_many_rows(order, deep)
    lines = set()
    for step in range(1, many):
        steps = multiples_of(field, digits_of(step, order, deep))
        for place in range(many):
            lines.add(line_of(field, digits_of(place, order, deep), steps))
    return (many, sorted(lines))


def sheets(order, deep):
    """The plan of the rows of deep things of the field; its blocks are the sheets."""
    field = plane_field(order)
    many = how_many_rows(order, deep)
    rows = [digits_of(place, order, deep) for place in range(many)]
    found = set()
    for factors in rows[1:]:
        sums = [sum_of_products(field, factors, row) for row in rows]
        for total in range(order):
            found.add(tuple([place for place in range(many) if sums[place] == total]))
    return (many, sorted(found))


def how_many_rows(order, deep):
    """Order to the power deep; refused with NoPlane where no space is told for them."""
    if deep < LEAST_DEEP or deep > GREATEST_DEEP:
        raise NoPlane("there is no space so deep here")
    many = power_of(order, deep)
    if many > MOST_THINGS:
        raise NoPlane("a space of so many things is too large")
    return many


def multiples_of(field, row):
    """For each thing of the field the row of it times the digits."""
    return [[field.times(thing, digit) for digit in row] for thing in range(field.order)]


def line_of(field, row, steps):
    """The block of the places to which these steps, rows, lead from a row."""
    return tuple(sorted([place_of(field, row, step) for step in steps]))


def place_of(field, row, step):
    """The number of a row plus a step, digit by digit."""
    place = 0
    for left, right in list(zip(row, step))[::-1]:
        place = place * field.order + field.plus(left, right)
    return place


def sum_of_products(field, factors, row):
    """The sum, in the field, of the factors times the digits of a row."""
    total = 0
    for factor, digit in zip(factors, row):
        total = field.plus(total, field.times(factor, digit))
    return total
