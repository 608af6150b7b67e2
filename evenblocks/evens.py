"""Even plans: all blocks are of one size, and each two things meet equally often."""

from evenblocks.plans import how_often, marks_of, ones_of


def even_of(plan):
    """(many, blocks, each, size, meet) of an even plan; None for another one."""
    if uneven_of(plan) is not None:
        return None
    many, blocks = plan
    # In an even plan any thing and any two things tell the number for all.
    each = how_often(plan, (0,))
    meet = how_often(plan, (0, 1))
    return (many, len(blocks), each, len(blocks[0]), meet)


def uneven_of(plan):
    """The first thing that keeps a plan from being even; None for an even plan."""
    many, blocks = plan
    if many < 2 or not blocks:
        return ("few",)
    fault = fault_of_sizes(blocks)
    if fault is not None:
        return fault
    return fault_of_pairs(marks_of(plan))


def fault_of_sizes(blocks):
    """("small", b) or ("sizes", b); None where all blocks are of one size of two or more."""
    for place, block in enumerate(blocks):
        if len(block) < 2:
            return ("small", place)
    for place, block in enumerate(blocks):
        if len(block) != len(blocks[0]):
            return ("sizes", place)
    return None


def fault_of_pairs(marks):
    """("pairs", one, other, times, first) for the first two things that meet otherwise than 0 and 1."""
    first = ones_of(marks[0] & marks[1])
    for one in range(len(marks)):
        for other in range(one + 1, len(marks)):
            times = ones_of(marks[one] & marks[other])
            if times != first:
                return ("pairs", one, other, times, first)
    return None
