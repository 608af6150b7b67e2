"""Plans turned about: moved, with other blocks, put beside one another, swapped, cut."""

from evenblocks.errors import NoBlock, NoTurning, Unlike


def moved(plan, turning):
    """The plan in which each thing is the one that the turning tells; refused with NoTurning."""
    many, blocks = plan
    # The length is looked at first: what is too long or too short needs no sorting.
    if len(turning) != many or sorted(turning) != list(range(many)):
        raise NoTurning("the list has not each thing once")
    return (many, sorted([tuple(sorted([turning[thing] for thing in block])) for block in blocks]))


def others(plan):
    """The plan with, for each block, the block of the things that aren't in it."""
    many, blocks = plan
    return (many, sorted([tuple(things_outside(many, block)) for block in blocks]))


def things_outside(many, block):
    """The things, rising, that aren't in a block."""
    inside = set(block)
    return [thing for thing in range(many) if thing not in inside]


def beside(one, other):
    """The plan with the blocks of both; refused with Unlike where they have not as many things."""
    if one[0] != other[0]:
        raise Unlike("the plans have not as many things")
    return (one[0], sorted(one[1] + other[1]))


def swapped(plan):
    """Things and blocks exchanged, the new blocks in the order of the things; refused with NoBlock."""
    many, blocks = plan
    if not blocks:
        raise NoBlock("a plan without blocks can't be swapped")
    found = [[] for thing in range(many)]
    for place, block in enumerate(blocks):
        for thing in block:
            found[thing].append(place)
    return (len(blocks), [tuple(places) for places in found])


def within(plan, place):
    """The other blocks cut down to the things of one block, numbered anew; refused with NoBlock."""
    return cut_to(plan, place, list(block_at(plan, place)))


def without(plan, place):
    """The other blocks cut down to the things that aren't in one block, numbered anew; refused with NoBlock."""
    return cut_to(plan, place, things_outside(plan[0], block_at(plan, place)))


def block_at(plan, place):
    """The block of that number; refused with NoBlock where there is none."""
    if place < 0 or place >= len(plan[1]):
        raise NoBlock("there is no block of that number")
    return plan[1][place]


def cut_to(plan, place, things):
    """The plan of these things, numbered anew, with what all blocks but one have of them."""
    if not things:
        raise NoBlock("no thing is left")
    numbers = {thing: number for number, thing in enumerate(things)}
    blocks = []
    for number, block in enumerate(plan[1]):
        if number != place:
            blocks.append(tuple([numbers[thing] for thing in block if thing in numbers]))
    return (len(things), sorted(blocks))
