"""The forms of the desk's lines: what their words say, and which words are none of theirs."""

from evenblocks.errors import NoLine
from evenblocks.plans import is_block
from evenblocks.texts import is_number, numbers_in

LETTERS = "abcdefghijklmnopqrstuvwxyz"
MOST_LETTERS = 8
MOST_THINGS = 200
LEAST_REST = 2

# The kinds of the words behind the first one of a making or a question.
MAKINGS = {
    "triples": ("number",),
    "flat": ("number",),
    "closed": ("number",),
    "space": ("number", "number"),
    "sheets": ("number", "number"),
    "squares": ("number",),
    "net": ("number", "number"),
    "others": ("name",),
    "swapped": ("name",),
    "beside": ("name", "name"),
    "within": ("name", "number"),
    "without": ("name", "number"),
    "moved": ("name", "turning"),
}
QUESTIONS = {
    "even": ("name",),
    "blocks": ("name",),
    "alike": ("name", "name"),
    "days": ("name",),
    "drop": ("name",),
}


def is_name(word):
    """Whether a word is one to eight letters from a to z."""
    return 1 <= len(word) <= MOST_LETTERS and all(letter in LETTERS for letter in word)


def read_name(word):
    """The name that a word is; refused with NoLine."""
    if not is_name(word):
        raise NoLine("that is no name")
    return word


def read_number(word):
    """The number that a word writes; refused with NoLine."""
    if not is_number(word):
        raise NoLine("that is no number")
    return int(word)


def read_numbers(word):
    """The numbers, one or more, that a word writes with a point between two; refused with NoLine."""
    numbers = numbers_in(word, ".")
    if numbers is None:
        raise NoLine("these are no numbers with points between them")
    return numbers


def read_word(kind, word):
    """What a word of that kind says; refused with NoLine."""
    if kind == "name":
        return read_name(word)
    if kind == "number":
        return read_number(word)
    return read_numbers(word)


def read_words(kinds, words):
    """What words of these kinds say; refused with NoLine where they are others, or more or fewer."""
    if len(words) != len(kinds):
        raise NoLine("the line has too few or too many words")
    return [read_word(kind, word) for kind, word in zip(kinds, words)]


def read_rests(words):
    """(many, bases), as the words behind rests say; refused with NoLine."""
    if len(words) < 2:
        raise NoLine("rests are of a number and of one base or more")
    many = read_number(words[0])
    if many < LEAST_REST or many > MOST_THINGS:
        raise NoLine("rests are not told by that number")
    return (many, [read_base(many, word) for word in words[1:]])


def read_base(many, word):
    """The base of rests by many that a word writes; refused with NoLine."""
    base = tuple(read_numbers(word))
    # A base is written and bounded as a block is, but that it isn't empty.
    if not is_block(many, base):
        raise NoLine("that is no base")
    return base


def read_blocks(words):
    """(many, blocks), as the words behind plan say, whether it is a plan or not; refused with NoLine."""
    if not words:
        raise NoLine("a plan has a number of things")
    many = read_number(words[0])
    if many > MOST_THINGS:
        raise NoLine("the desk has no plans of so many things")
    return (many, [tuple(read_numbers(word)) if word != "-" else () for word in words[1:]])
