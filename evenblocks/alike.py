"""Whether two plans are alike: a turning that leads the one to the other, or a paper of counts that part them.

A pair is a thing of the one plan and a thing of the other one. The trace of a block is a number whose bit p is 1 where
the block has its own plan's thing of pair p.
"""


def alike(one, other):
    """("alike", turning) or ("unlike", paper)."""
    if one[0] != other[0] or len(one[1]) != len(other[1]):
        # Without pairs the parts are the numbers of blocks; of plans with unlike numbers of things any paper will do.
        return ("unlike", ("parts", ()))
    return settled(one, other, [], no_traces(one), no_traces(other))


def no_traces(plan):
    """The traces of a plan's blocks where there are no pairs yet."""
    return [0] * len(plan[1])


def settled(one, other, pairs, left, right):
    """("alike", turning) by a turning that keeps to the pairs, or ("unlike", knot); left, right are the traces."""
    parting = parting_trace(left, right)
    if parting is not None:
        return ("unlike", ("parts", picks_of(parting)))
    if len(pairs) == one[0]:
        return ("alike", [twin for thing, twin in sorted(pairs)])
    things = free_things(one, [pair[0] for pair in pairs])
    twins = free_things(other, [pair[1] for pair in pairs])
    thing = best_thing(looks_of(one, things, left), looks_of(other, twins, right))
    traces = traces_with(one, left, thing, len(pairs))
    knots = []
    for twin in twins:
        told = settled(one, other, pairs + [(thing, twin)], traces, traces_with(other, right, twin, len(pairs)))
        if told[0] == "alike":
            return told
        knots.append(told[1])
    return ("unlike", ("thing", thing, knots))


def parting_trace(left, right):
    """The least trace that is not found as often on both sides, of as many blocks; None where there is none."""
    for one, other in zip(sorted(left), sorted(right)):
        if one != other:
            return min(one, other)
    return None


def picks_of(trace):
    """The places of the pairs that a trace has."""
    return tuple([place for place in range(trace.bit_length()) if (trace >> place) & 1 == 1])


def free_things(plan, taken):
    """The things of a plan that are not taken, rising."""
    return [thing for thing in range(plan[0]) if thing not in taken]


def traces_with(plan, traces, thing, place):
    """The traces with one pair more, of that place in the row, that has the thing."""
    bit = 1 << place
    return [trace | bit if thing in block else trace for block, trace in zip(plan[1], traces)]


def looks_of(plan, things, traces):
    """For each thing its look: the sorted traces of the blocks that have it."""
    looks = {}
    for thing in things:
        looks[thing] = sorted([trace for block, trace in zip(plan[1], traces) if thing in block])
    return looks


def best_thing(looks, twin_looks):
    """The thing whose knots seem to be the fewest."""
    own = list(looks.values())
    facing = list(twin_looks.values())
    return min([(burden(own.count(look), facing.count(look)), thing) for thing, look in looks.items()])[1]


def burden(things, twins):
    """What it costs to pair a thing with all twins, where so many things and so many twins look like it."""
    # Only a twin that looks like it leads on to more knots. Where there are more such things than twins, these
    # run out sooner or later, so that the way through them ends, however much alike they are.
    return (twins > 1 and things <= twins, twins)


def shows_unlike(one, other, paper):
    """Whether the plans have not as many things, or it is a paper that they are unlike."""
    if one[0] != other[0]:
        return True
    return is_knot(one, other, [], no_traces(one), no_traces(other), paper)


def is_knot(one, other, pairs, left, right, knot):
    """Whether anything is a knot with these pairs; left, right are the traces."""
    if not isinstance(knot, tuple) or not knot or not isinstance(knot[0], str):
        return False
    if knot[0] == "thing" and len(knot) == 3:
        return is_thing_knot(one, other, pairs, left, right, knot)
    if knot[0] == "parts" and len(knot) == 2:
        return are_picks(knot[1], len(pairs)) and parts_at(left, right, knot[1])
    return False


def is_whole(number):
    """Whether anything is a whole number."""
    return isinstance(number, int) and not isinstance(number, bool)


def is_thing_knot(one, other, pairs, left, right, knot):
    """Whether ("thing", anything, anything) is a knot with these pairs."""
    word, thing, knots = knot
    twins = free_things(other, [pair[1] for pair in pairs])
    if not is_whole(thing) or thing not in free_things(one, [pair[0] for pair in pairs]):
        return False
    if not isinstance(knots, list) or len(knots) != len(twins):
        return False
    traces = traces_with(one, left, thing, len(pairs))
    for twin, inner in zip(twins, knots):
        twin_traces = traces_with(other, right, twin, len(pairs))
        if not is_knot(one, other, pairs + [(thing, twin)], traces, twin_traces, inner):
            return False
    return True


def are_picks(picks, many):
    """Whether anything is a tuple of places, rising, in a row of so many pairs."""
    if not isinstance(picks, tuple):
        return False
    before = -1
    for place in picks:
        if not is_whole(place) or place <= before or place >= many:
            return False
        before = place
    return True


def parts_at(left, right, picks):
    """Whether unlike numbers of traces have just the bits of these picks."""
    trace = sum([1 << place for place in picks])
    return left.count(trace) != right.count(trace)
