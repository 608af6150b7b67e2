"""Flat planes, their days, and closed planes, by the fields of small orders."""

from evenblocks.errors import NoPlane
from evenblocks.fields import ORDERS, field_of

LARGEST = 13


def plane_field(order):
    """The field by which planes and spaces of that order are made; refused with NoPlane."""
    if order > LARGEST or order not in ORDERS:
        raise NoPlane("there is no plane of that order here")
    return field_of(order)


def flat(order):
    """The plane of the places of two things of the field; its blocks are the lines."""
    blocks = []
    for day in flat_days(order):
        blocks.extend(day)
    return (order * order, sorted(blocks))


def flat_days(order):
    """The lines of the flat plane by their slopes, and last those of one x each."""
    field = plane_field(order)
    days = [lines_of(field, slope) for slope in range(order)]
    days.append([tuple(range(x * order, x * order + order)) for x in range(order)])
    return days


def lines_of(field, slope):
    """The lines of one slope, sorted."""
    lines = []
    for start in range(field.order):
        # By rising x the places are rising too.
        places = [x * field.order + field.plus(field.times(slope, x), start) for x in range(field.order)]
        lines.append(tuple(places))
    return sorted(lines)


def closed(order):
    """The flat plane with one thing more for each day, in all its blocks, and one block of these things."""
    many = order * order
    blocks = []
    for number, day in enumerate(flat_days(order)):
        blocks.extend([line + (many + number,) for line in day])
    blocks.append(tuple(range(many, many + order + 1)))
    return (many + order + 1, sorted(blocks))
