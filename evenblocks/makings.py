"""The desk's makings: the plan that each of their words tells of what stands behind it."""

from evenblocks.errors import NoSize
from evenblocks.nets import net
from evenblocks.planes import closed, flat
from evenblocks.rests import rolled, square_bases
from evenblocks.spaces import sheets, space
from evenblocks.squares import many_squares
from evenblocks.triples import triples
from evenblocks.turning import beside, moved, others, swapped, within, without


def made_of_numbers(word, numbers):
    """The plan of a making of numbers, refused as its function."""
    if word == "triples":
        return triples(numbers[0])
    if word == "flat":
        return flat(numbers[0])
    if word == "closed":
        return closed(numbers[0])
    if word == "space":
        return space(numbers[0], numbers[1])
    if word == "sheets":
        return sheets(numbers[0], numbers[1])
    if word == "squares":
        return rolled(numbers[0], square_bases(numbers[0]))
    return net_by_first(numbers[0], numbers[1])


def net_by_first(size, number):
    """The net by the first squares of many_squares, so many; refused with NoSize where there are fewer."""
    squares = many_squares(size)
    if number > len(squares):
        raise NoSize("there are not so many squares of that size")
    return net(size, squares[:number])


def made_of_plans(word, said):
    """The plan of a making of one plan or two, and a number or a turning; refused as its function."""
    if word == "others":
        return others(said[0])
    if word == "swapped":
        return swapped(said[0])
    if word == "beside":
        return beside(said[0], said[1])
    if word == "within":
        return within(said[0], said[1])
    if word == "without":
        return without(said[0], said[1])
    return moved(said[0], said[1])
