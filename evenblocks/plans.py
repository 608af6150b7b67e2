"""Plans, and how often things meet in them.

A plan is a pair (many, blocks): the things are the numbers from 0 to many - 1,
the blocks are a list of tuples of things, rising.
"""

from evenblocks.errors import NoPlan


def checked(plan):
    """True for a plan; else refuses with NoPlan."""
    many, blocks = plan
    if many < 1:
        raise NoPlan(-1)
    for place, block in enumerate(blocks):
        if not is_block(many, block):
            raise NoPlan(place)
    return True


def is_block(many, block):
    """Whether a tuple of whole numbers is a block of a plan of so many things."""
    # From -1 on, the test for rising also finds what is below 0.
    before = -1
    for thing in block:
        if thing <= before or thing >= many:
            return False
        before = thing
    return True


def how_often(plan, things):
    """In how many blocks all these things stand."""
    found = 0
    for block in plan[1]:
        if all([thing in block for thing in things]):
            found += 1
    return found


def met_by(plan, few):
    """In how many blocks each few unlike things stand together; None where it isn't one number."""
    every_block = (1 << len(plan[1])) - 1
    return one_number(few_of_each(marks_of(plan), few), 0, every_block, few)


def marks_of(plan):
    """For each thing a mark: a number whose bit b is 1 where the thing stands in block b."""
    many, blocks = plan
    marks = [0] * many
    for place, block in enumerate(blocks):
        for thing in block:
            marks[thing] |= 1 << place
    return marks


def ones_of(mark):
    """How many blocks a mark has."""
    bits = f"{mark:b}"
    return bits.count("1")


def few_of_each(marks, few):
    """The marks, each of them at most few times."""
    # Things with the same mark are alike to every count, so few things need no more of a mark:
    # a plan of 200 things in one block would else have some 65 million fours to look at.
    kept = []
    times = {}
    for mark in marks:
        times[mark] = times.get(mark, 0) + 1
        if times[mark] <= few:
            kept.append(mark)
    return kept


def one_number(marks, start, held, few):
    """How many of the held blocks each few marks, from start on, have in common; None if unlike.

    There are at least few marks from start on.
    """
    # Where no block is held, none is in common, whichever marks come next.
    if few == 0 or held == 0:
        return ones_of(held)
    found = None
    for place in range(start, len(marks) - few + 1):
        told = one_number(marks, place + 1, held & marks[place], few - 1)
        if told is None or (found is not None and told != found):
            return None
        found = told
    return found
