"""Plans for the tests, and plain counts that follow the document word by word."""

from itertools import combinations, combinations_with_replacement, product

from evenblocks.errors import BlockError

SEVEN = (7, [(0, 1, 2), (0, 3, 4), (0, 5, 6), (1, 3, 5), (1, 4, 6), (2, 3, 6), (2, 4, 5)])
EIGHT = (8, [(0, 1, 2, 3), (0, 1, 4, 5), (0, 1, 6, 7), (0, 2, 4, 6), (0, 2, 5, 7),
             (0, 3, 4, 7), (0, 3, 5, 6), (1, 2, 4, 7), (1, 2, 5, 6), (1, 3, 4, 6),
             (1, 3, 5, 7), (2, 3, 4, 5), (2, 3, 6, 7), (4, 5, 6, 7)])


def fours_of_eleven():
    """Eleven things in 66 blocks of five, in which each four stand together once."""
    last = 11

    def step(block):
        return tuple(sorted(x if x == last else (x + 1) % 11 for x in block))

    def flip(block):
        turned = [0 if x == last else last if x == 0 else -pow(x, -1, 11) % 11 for x in block]
        return tuple(sorted(turned))

    waiting = [(1, 3, 4, 5, 9, last)]
    found = set(waiting)
    while waiting:
        block = waiting.pop()
        for new in (step(block), flip(block)):
            if new not in found:
                found.add(new)
                waiting.append(new)
    return 11, sorted(block[:-1] for block in found if block[-1] == last)


def all_of_size(many, size):
    return many, list(combinations(range(many), size))


def rolled(many, bases):
    blocks = [tuple(sorted((a + t) % many for a in base)) for base in bases for t in range(many)]
    return many, blocks


def subsets(many):
    return [block for size in range(many + 1) for block in combinations(range(many), size)]


def tiny_plans():
    """Every plan of at most three things and three blocks, in every order of the blocks, and more."""
    for many in range(1, 4):
        for number in range(4):
            for blocks in product(subsets(many), repeat=number):
                yield many, list(blocks)
    for number in range(3):
        for blocks in product(subsets(4), repeat=number):
            yield 4, list(blocks)
    for blocks in combinations_with_replacement(subsets(5), 2):
        yield 5, list(blocks)


def one_size_plans():
    """Many plans whose blocks are all of one size."""
    for many in range(1, 6):
        for size in range(many + 1):
            blocks = list(combinations(range(many), size))
            for picks in product((0, 1), repeat=len(blocks)):
                yield many, [b for b, times in zip(blocks, picks) for _ in range(times)]
    for size in range(1, 5):
        blocks = list(combinations(range(4), size))
        for picks in product((0, 1, 2), repeat=len(blocks)):
            yield 4, [b for b, times in zip(blocks, picks) for _ in range(times)]
    for many in range(6, 10):
        for size in range(2, many + 1):
            for base in combinations(range(many), size):
                if base[0] == 0:
                    yield rolled(many, [base])
    bases = [base for base in combinations(range(9), 3) if base[0] == 0]
    for one, other in combinations_with_replacement(bases, 2):
        yield rolled(9, [one, other])
    yield rolled(13, [(0, 1, 3, 9)])
    yield rolled(13, [(0, 1, 4), (0, 2, 7)])
    yield SEVEN
    yield EIGHT
    yield fours_of_eleven()
    for many in range(6, 9):
        for size in range(many + 1):
            yield all_of_size(many, size)


def plain_how_often(plan, things):
    return len([block for block in plan[1] if set(things) <= set(block)])


def plain_met_by(plan, few):
    told = {plain_how_often(plan, things) for things in combinations(range(plan[0]), few)}
    return told.pop() if len(told) == 1 else None


def plain_uneven(plan):
    many, blocks = plan
    sizes = [len(block) for block in blocks]
    if many == 1 or sizes == []:
        return ("few",)
    if min(sizes) < 2:
        return ("small", [size < 2 for size in sizes].index(True))
    if set(sizes) != {sizes[0]}:
        return ("sizes", [size != sizes[0] for size in sizes].index(True))
    first = plain_how_often(plan, (0, 1))
    for one, other in combinations(range(many), 2):
        times = plain_how_often(plan, (one, other))
        if times != first:
            return ("pairs", one, other, times, first)
    return None


def kinds_of(value):
    """The value with the class of each of its parts, so that 1 and True are unlike."""
    if isinstance(value, (tuple, list)):
        return value.__class__, [kinds_of(part) for part in value]
    return value.__class__, value


HUGE = (10 ** 49, 10 ** 60 + 7, 2 ** 500, 10 ** 5000)


def whole_numbers(low, high):
    """The whole numbers from low to high, and some that are far away from them."""
    return [-number for number in HUGE[::-1]] + list(range(low, high + 1)) + list(HUGE)


def refusal_of(ask, *handed_in):
    """The class of the refusal of a function; None where it isn't refused."""
    try:
        ask(*handed_in)
    except BlockError as refusal:
        return refusal.__class__
    return None


def lists_in(value):
    """Every list that stands in a value, itself too."""
    found = [value] if isinstance(value, list) else []
    if isinstance(value, (tuple, list)):
        for part in value:
            found += lists_in(part)
    return found


def spoiled(told):
    """Changes every list of an answer."""
    for part in lists_in(told):
        part.reverse()
        part.append(["more"])
        del part[0]
