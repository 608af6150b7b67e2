"""The desk: it keeps plans by names, and tells of them, line by line."""

from evenblocks.alike import alike
from evenblocks.days import days_of
from evenblocks.errors import NoLine, NoName, TooMany
from evenblocks.evens import even_of, uneven_of
from evenblocks.forms import MAKINGS, QUESTIONS, read_blocks, read_name, read_rests, read_words
from evenblocks.makings import made_of_numbers, made_of_plans
from evenblocks.plans import checked
from evenblocks.rests import rolled

# How many things and blocks a plan has at most: to be kept, to be asked whether it is alike, to be asked for days.
TO_KEEP = (200, 2000)
TO_COMPARE = (9, 24)
TO_DEAL = (16, 16)


class Desk:
    """Plans by names, and the lines that make them and ask of them."""

    def __init__(self):
        self.kept = {}

    def say(self, line):
        """The answer to a line; what is refused changes nothing."""
        words = line.split(" ")
        if words[0] == "keep":
            return self.keep(words[1:])
        if words[0] not in QUESTIONS:
            raise NoLine("no line begins so")
        plans = self.read(QUESTIONS[words[0]], words[1:])
        if words[0] == "drop":
            del self.kept[words[1]]
            return "gone"
        return answer_of(words[0], plans)

    def keep(self, words):
        """Keeps the plan of the making behind a name, and tells how many things and blocks it has."""
        if len(words) < 2:
            raise NoLine("what is kept has a name and a making")
        name = read_name(words[0])
        plan = self.made(words[1], words[2:])
        check_bounds(plan, TO_KEEP)
        self.kept[name] = plan
        return f"{plan[0]} {len(plan[1])}"

    def made(self, word, words):
        """The plan of a making, its first word and those behind it."""
        if word == "rests":
            many, bases = read_rests(words)
            return rolled(many, bases)
        if word == "plan":
            plan = read_blocks(words)
            checked(plan)
            return plan
        if word not in MAKINGS:
            raise NoLine("no making begins so")
        said = self.read(MAKINGS[word], words)
        return made_of_plans(word, said) if "name" in MAKINGS[word] else made_of_numbers(word, said)

    def read(self, kinds, words):
        """What words of these kinds say, a plan for each name; refused with NoLine, then with NoName."""
        said = read_words(kinds, words)
        return [self.plan_by(value) if kind == "name" else value for kind, value in zip(kinds, said)]

    def plan_by(self, name):
        """The plan that is kept by a name; refused with NoName."""
        if name not in self.kept:
            raise NoName(name)
        return self.kept[name]


def check_bounds(plan, bounds):
    """Refuses with TooMany a plan of more things or blocks than the bounds."""
    if plan[0] > bounds[0] or len(plan[1]) > bounds[1]:
        raise TooMany("the plan has too many things or blocks")


def answer_of(word, plans):
    """The answer to a question about one plan, or two."""
    if word == "even":
        return show_even(plans[0])
    if word == "blocks":
        return show_blocks(plans[0][1])
    if word == "days":
        return show_days(plans[0])
    return show_alike(plans[0], plans[1])


def show_even(plan):
    """even and the five numbers, or uneven and why."""
    told = even_of(plan)
    if told is None:
        return show_words(("uneven",) + uneven_of(plan))
    return show_words(("even",) + told)


def show_words(words):
    """The words and numbers with one blank between two."""
    return " ".join([str(word) for word in words])


def show_alike(one, other):
    """alike and a turning, or unlike; refused with TooMany where one of the two is too large."""
    check_bounds(one, TO_COMPARE)
    check_bounds(other, TO_COMPARE)
    told = alike(one, other)
    if told[0] == "unlike":
        return "unlike"
    return f"alike {show_things(told[1])}"


def show_days(plan):
    """The days of a plan; refused with TooMany where it is too large."""
    check_bounds(plan, TO_DEAL)
    days = days_of(plan)
    if days is None:
        return "none"
    if not days:
        return "nothing"
    return " / ".join([show_blocks(day) for day in days])


def show_blocks(blocks):
    """The blocks with one blank between two; nothing where there are none."""
    if not blocks:
        return "nothing"
    return " ".join([show_things(block) if block else "-" for block in blocks])


def show_things(things):
    """The things with a point between two."""
    return ".".join([str(thing) for thing in things])
