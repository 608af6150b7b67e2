"""Plans and squares as texts, a row for each block or row."""

from evenblocks.errors import NoText
from evenblocks.plans import checked
from evenblocks.squares import checked_square

FIGURES = "0123456789"
MOST_FIGURES = 6


def show_plan(plan):
    """The text of a plan."""
    many, blocks = plan
    rows = [f"things {many}"]
    rows.extend([show_numbers(block) if block else "-" for block in blocks])
    return "\n".join(rows)


def show_square(square):
    """The text of a square."""
    return "\n".join([show_numbers(row) for row in square])


def show_numbers(numbers):
    """The numbers with one blank between two."""
    return " ".join([str(number) for number in numbers])


def read_plan(text):
    """The plan of a text, its blocks as they stand; refused with NoText, then with NoPlan."""
    rows = text.split("\n")
    words = rows[0].split(" ")
    if len(words) != 2 or words[0] != "things" or not is_number(words[1]):
        raise NoText(1)
    blocks = []
    for line, row in enumerate(rows[1:], start=2):
        things = numbers_in(row, " ") if row != "-" else []
        if things is None:
            raise NoText(line)
        blocks.append(tuple(things))
    plan = (int(words[1]), blocks)
    checked(plan)
    return plan


def read_square(text):
    """The square of a text; refused with NoText, then with NoSquare."""
    square = []
    for line, row in enumerate(text.split("\n"), start=1):
        letters = numbers_in(row, " ")
        if letters is None:
            raise NoText(line)
        square.append(letters)
    checked_square(square)
    return square


def numbers_in(text, mark):
    """The numbers that stand in a text with one mark between two; None where it isn't so written."""
    words = text.split(mark)
    if not all(is_number(word) for word in words):
        return None
    return [int(word) for word in words]


def is_number(word):
    """Whether a word is a number as it is written here: one to six figures, the first no nought but in 0."""
    if word == "" or len(word) > MOST_FIGURES or (word[0] == "0" and word != "0"):
        return False
    return all(sign in FIGURES for sign in word)
