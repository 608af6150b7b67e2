"""The refusals: all stand straight under BlockError, none under another one."""


class BlockError(ValueError):
    """Any refusal."""


class NoPlan(BlockError):
    """What was handed in is no plan; place is -1, or the number of the first block at fault."""

    def __init__(self, place):
        super().__init__(f"no plan, at fault in place {place}")
        self.place = place


class NoField(BlockError):
    """There is no field of that order."""


class ByNought(BlockError):
    """Nothing goes over 0 in a field."""


class NoPlane(BlockError):
    """There is no plane or space of these numbers."""


class NoPrime(BlockError):
    """The number is none of the primes that bases are told for."""


class NoTriples(BlockError):
    """There is no plan of triples of so many things."""


class NoSquare(BlockError):
    """The rows are no square."""


class Unlike(BlockError):
    """What is put together does not fit together."""


class NoSize(BlockError):
    """There are no squares or nets of that size."""


class NoNet(BlockError):
    """The days are no net's days."""


class NoTurning(BlockError):
    """The list is no turning of the plan's things."""


class NoBlock(BlockError):
    """There is no such block, or nothing is left."""


class NoDays(BlockError):
    """There are no days of pairs of so many things."""


class NoText(BlockError):
    """The text is none of those that are read; line is the number of the first wrong row, from 1."""

    def __init__(self, line):
        super().__init__(f"no such text, wrong from row {line} on")
        self.line = line


class TooMany(BlockError):
    """The plan has too many things or blocks."""


class NoLine(BlockError):
    """The line has none of the desk's forms."""


class NoName(BlockError):
    """Nothing is kept by that name."""

    def __init__(self, name):
        super().__init__(f"nothing is kept by the name {name}")
        self.name = name
