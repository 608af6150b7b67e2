"""Days: on each of them everybody is in just one block."""

from evenblocks.errors import NoDays

LEAST = 2
GREATEST = 60


def fault_of_days(plan, days):
    """None for days of the plan, else what is wrong first."""
    blocks = []
    for day in days:
        blocks.extend(day)
    if sorted(blocks) != sorted(plan[1]):
        return ("blocks",)
    for number, day in enumerate(days):
        fault = fault_of_day(plan[0], number, day)
        if fault is not None:
            return fault
    return None


def fault_of_day(many, number, day):
    """("left", number, thing) or ("twice", number, thing) for the first such thing, or None."""
    times = [0] * many
    for block in day:
        for thing in block:
            times[thing] += 1
    for thing in range(many):
        if times[thing] == 0:
            return ("left", number, thing)
        if times[thing] > 1:
            return ("twice", number, thing)
    return None


def pair_days(many):
    """Days of pairs on which each two of many things meet once; refused with NoDays."""
    if many < LEAST or many > GREATEST:
        raise NoDays("days of pairs of so many things are not told here")
    # All but one sit in a ring; where many is odd, that one is nobody, and who would meet it is left out.
    ring = many - 1 + many % 2
    return [pairs_around(many, ring, middle) for middle in range(ring)]


def pairs_around(many, ring, middle):
    """The pairs of a day: those equally far from the middle in the ring, and the middle with who sits outside."""
    pairs = []
    for step in range(1, (ring + 1) // 2):
        one = (middle + step) % ring
        other = (middle - step) % ring
        pairs.append((min(one, other), max(one, other)))
    if ring < many:
        pairs.append((middle, ring))
    return sorted(pairs)


def days_of(plan):
    """Days of the plan; None where its blocks can't be dealt out so."""
    many, blocks = plan
    if not blocks:
        return []
    full = [block for block in blocks if block]
    order = dealt([mark_of(block) for block in full], (1 << many) - 1, 0, 0, {})
    # Empty blocks alone fill no day, and there must be a day that they stand on.
    if not order:
        return None
    days = days_in_order(many, [full[place] for place in order])
    days[0].extend([block for block in blocks if not block])
    return days


def mark_of(block):
    """A number whose bit t is 1 where the block has the thing t."""
    return sum([1 << thing for thing in block])


def dealt(marks, everybody, used, there, dead):
    """The places of the marks that are not used, in an order that fills day behind day, or None.

    used has the bits of the places dealt out, there those of the things that stand in a block of the day begun.
    """
    if used == (1 << len(marks)) - 1:
        return [] if there == 0 else None
    # What is used tells who is there, so a dead end is known again by it alone.
    if used in dead:
        return None
    for place in places_next(marks, used, there):
        now_there = there | marks[place]
        told = dealt(marks, everybody, used | (1 << place), now_there if now_there != everybody else 0, dead)
        if told is not None:
            return [place] + told
    dead[used] = True
    return None


def places_next(marks, used, there):
    """The places of the marks, not used, with the first thing that isn't there and nobody who is."""
    first = ~there & (there + 1)
    found = []
    for place, mark in enumerate(marks):
        if mark & first != 0 and mark & there == 0 and (used >> place) & 1 == 0:
            found.append(place)
    # Each block comes on some day, and the days have no order: a day may begin with any of its blocks.
    return found[:1] if there == 0 else found


def days_in_order(many, blocks):
    """The blocks cut into days, each with as many things as there are."""
    days = []
    there = many
    for block in blocks:
        if there == many:
            days.append([])
            there = 0
        days[-1].append(block)
        there += len(block)
    return days
