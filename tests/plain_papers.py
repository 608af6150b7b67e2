"""Papers word by word from the document, and turnings that are tried one by one."""

from itertools import permutations


def is_whole(value):
    return isinstance(value, int) and not isinstance(value, bool)


def counted(plan, things, picks):
    """How many blocks have, of these things, just those at picks."""
    due = {things[place] for place in picks}
    return len([block for block in plan[1] if set(block) & set(things) == due])


def plain_is_knot(one, other, pairs, knot):
    if not isinstance(knot, tuple) or len(knot) not in (2, 3):
        return False
    firsts, seconds = [pair[0] for pair in pairs], [pair[1] for pair in pairs]
    if len(knot) == 3:
        word, thing, knots = knot
        if not (isinstance(word, str) and word == "thing" and is_whole(thing) and isinstance(knots, list)):
            return False
        free = [twin for twin in range(other[0]) if twin not in seconds]
        if thing not in range(one[0]) or thing in firsts or len(knots) != len(free):
            return False
        return all(plain_is_knot(one, other, pairs + [(thing, twin)], inner) for twin, inner in zip(free, knots))
    word, picks = knot
    if not (isinstance(word, str) and word == "parts" and isinstance(picks, tuple) and all(map(is_whole, picks))):
        return False
    if list(picks) != sorted(set(picks)) or not set(picks) <= set(range(len(pairs))):
        return False
    return counted(one, firsts, picks) != counted(other, seconds, picks)


def plain_shows_unlike(one, other, paper):
    return one[0] != other[0] or plain_is_knot(one, other, [], paper)


def leads(one, other, turning):
    """Whether a list is a turning that leads the one plan to the other."""
    if sorted(turning) != list(range(one[0])) or one[0] != other[0]:
        return False
    return sorted(tuple(sorted(turning[thing] for thing in block)) for block in one[1]) == sorted(other[1])


def least_form(plan):
    """The least of all plans to which a turning leads: one and the same for plans that are alike."""
    many, blocks = plan
    return many, min(sorted(tuple(sorted(turning[thing] for thing in block)) for block in blocks)
                     for turning in permutations(range(many)))


def knots_in(paper):
    """How many knots a paper has."""
    waiting, number = [paper], 0
    while waiting:
        knot = waiting.pop()
        number += 1
        if knot[0] == "thing":
            waiting += knot[2]
    return number


def changed_papers(paper):
    """Papers that are unlike this one in one place."""
    yield list(paper)
    yield paper[:-1]
    yield paper + (paper[-1],)
    yield (paper[0].upper(),) + paper[1:]
    yield (paper[0] + " ",) + paper[1:]
    yield ("parts" if paper[0] == "thing" else "thing",) + paper[1:]
    yield (paper[0].encode(),) + paper[1:]
    if paper[0] == "parts":
        picks = paper[1]
        yield "parts", list(picks)
        yield "parts", picks + (len(picks) + 9,)
        yield "parts", (-1,) + picks
        yield "parts", picks + picks[-1:] if picks else ("0",)
        yield "parts", (10 ** 60,)
        yield "parts", (None,)
        yield "parts", None
        if len(picks) > 1:
            yield "parts", picks[::-1]
        for place, pick in enumerate(picks):
            if pick in (0, 1):
                yield "parts", picks[:place] + (bool(pick),) + picks[place + 1:]
            yield "parts", picks[:place] + (str(pick),) + picks[place + 1:]
            yield "parts", picks[:place] + ((pick,),) + picks[place + 1:]
        return
    word, thing, knots = paper
    for other in (-1, 9, 10 ** 60, None, str(thing), (thing,), [thing], True, False):
        yield word, other, knots
    yield word, thing, tuple(knots)
    yield word, thing, knots[:-1]
    yield word, thing, knots[1:]
    yield word, thing, knots + knots[-1:]
    yield word, thing, {number: knot for number, knot in enumerate(knots)}
    for place, knot in enumerate(knots):
        for inner in list(changed_papers(knot)) + [None, (), [], "thing", thing, ("thing", thing, knots)]:
            yield word, thing, knots[:place] + [inner] + knots[place + 1:]
