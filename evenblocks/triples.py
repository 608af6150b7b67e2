"""Plans of triples: blocks of three, in which each two things stand together once.

A thing (x, i), i below 3, is the number x * 3 + i.
"""

from evenblocks.errors import NoTriples

LEAST = 3
GREATEST = 99


def triples(many):
    """An even plan of so many things with blocks of three; refused with NoTriples where there is none."""
    if many < LEAST or many > GREATEST or many % 6 not in (1, 3):
        raise NoTriples("there are no triples of so many things here")
    blocks = blocks_by_three(many // 6) if many % 6 == 3 else blocks_by_one(many // 6)
    return (many, sorted([tuple(sorted(block)) for block in blocks]))


def thing_of(x, turn):
    """The number of the thing (x, i), i being the rest of turn by 3."""
    return x * 3 + turn % 3


def column_of(x):
    """The block of (x, 0), (x, 1), (x, 2)."""
    return (thing_of(x, 0), thing_of(x, 1), thing_of(x, 2))


def blocks_by_three(half):
    """The blocks, not yet sorted, of 6 * half + 3 things."""
    wide = 2 * half + 1
    # Times half + 1 is half of a rest by an odd number: two things and the one between them make a block.
    halves = [total * (half + 1) % wide for total in range(wide)]
    return [column_of(x) for x in range(wide)] + blocks_between(halves)


def blocks_by_one(half):
    """The blocks, not yet sorted, of 6 * half + 1 things; the last thing is in no column."""
    wide = 2 * half
    last = 6 * half
    # An even number of rests has no halves; the odd rests take the places that the even ones leave.
    halves = [total // 2 if total % 2 == 0 else total // 2 + half for total in range(wide)]
    blocks = [column_of(x) for x in range(half)]
    for x in range(half):
        blocks.extend([(last, thing_of(half + x, turn), thing_of(x, turn + 1)) for turn in range(3)])
    return blocks + blocks_between(halves)


def blocks_between(halves):
    """For x below y and each i the block of (x, i), (y, i) and (h, i + 1), h told by halves for the rest of x + y."""
    blocks = []
    wide = len(halves)
    for y in range(wide):
        for x in range(y):
            between = halves[(x + y) % wide]
            blocks.extend([(thing_of(x, turn), thing_of(y, turn), thing_of(between, turn + 1)) for turn in range(3)])
    return blocks
