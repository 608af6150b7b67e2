"""Plans and squares as texts: point [25]."""

import unittest

from evenblocks.errors import NoPlan, NoSquare, NoText
from evenblocks.planes import flat
from evenblocks.squares import field_squares, many_squares
from evenblocks.texts import read_plan, read_square, show_plan, show_square
from tests.samples import EIGHT, SEVEN, kinds_of, refusal_of, tiny_plans

# Rows that are numbers, one blank between two, in no text.
WRONG_ROWS = (
    "", " ", "  ", "00", "01", "0 01", "00 1", "000001", "0000000", "1234567", "0 1234567", "0  1", " 0", "0 ", " 0 1",
    "0 1 ", "- ", " -", "--", "- -", "0 -", "- 0", "-1", "-0", "+1", "0,1", "0.1", "0 1,", "a", "0 a", "a 0", "0x1", "1e1",
    "1_0", "0\t1", "things", "things 3", "(0, 1)", "0;1", "~", "0 /", "0 :", "!")


class Shown(unittest.TestCase):
    def test_plans(self):
        self.assertEqual(show_plan((1, [])), "things 1")
        self.assertEqual(show_plan((3, [()])), "things 3\n-")
        self.assertEqual(show_plan((3, [(2,), (0, 1), (), (0, 1, 2), ()])), "things 3\n2\n0 1\n-\n0 1 2\n-")
        self.assertEqual(show_plan((200, [(0, 10, 199)])), "things 200\n0 10 199")
        self.assertEqual(show_plan(SEVEN), "things 7\n0 1 2\n0 3 4\n0 5 6\n1 3 5\n1 4 6\n2 3 6\n2 4 5")

    def test_squares(self):
        self.assertEqual(show_square([[0]]), "0")
        self.assertEqual(show_square([[1, 0], [0, 1]]), "1 0\n0 1")
        self.assertEqual(show_square(field_squares(11)[0]).split("\n")[10], "10 0 1 2 3 4 5 6 7 8 9")

    def test_plans_there_and_back(self):
        large = (200, [tuple(range(200))] * 3 + [()] + [(thing,) for thing in range(199, -1, -1)])
        for plan in list(tiny_plans()) + [SEVEN, EIGHT, (7, SEVEN[1][::-1]), flat(13), large, (999999, [(999998,)])]:
            self.assertEqual(kinds_of(read_plan(show_plan(plan))), kinds_of(plan))

    def test_squares_there_and_back(self):
        for square in [[[0]]] + [square for size in range(2, 31) for square in many_squares(size)[:2]]:
            self.assertEqual(kinds_of(read_square(show_square(square))), kinds_of(square))

    def test_texts_there_and_back(self):
        for text in ("things 1", "things 1\n0", "things 1\n-\n-", "things 12\n11\n0 3 10\n-\n0 3 10"):
            self.assertEqual(show_plan(read_plan(text)), text)
        for text in ("0", "1 0\n0 1", "0 2 1\n1 0 2\n2 1 0"):
            self.assertEqual(show_square(read_square(text)), text)


class ReadPlan(unittest.TestCase):
    def no_text(self, text, line):
        for _ in range(2):
            with self.assertRaises(ValueError) as caught:
                read_plan(text)
            self.assertIs(caught.exception.__class__, NoText, text)
            self.assertEqual(kinds_of(caught.exception.line), (int, line), text)

    def no_plan(self, text, place):
        with self.assertRaises(ValueError) as caught:
            read_plan(text)
        self.assertIs(caught.exception.__class__, NoPlan, text)
        self.assertEqual(kinds_of(caught.exception.place), (int, place), text)

    def test_blocks_as_they_stand(self):
        self.assertEqual(read_plan("things 3\n2\n0 1\n-\n2"), (3, [(2,), (0, 1), (), (2,)]))
        self.assertEqual(read_plan("things 999999"), (999999, []))

    def test_the_first_row(self):
        for row in WRONG_ROWS + ("thing 3", "Things 3", "things", "things ", "things  3", " things 3", "things 3 ",
                                 "things 3 4", "things -", "things -1", "things 03", "things 00", "things 1234567",
                                 "things 1000000", "things x", "things 3.", "3", "3 things", "-", "0 1", "things3",
                                 "things\t3", "things +3"):
            if row != "things 3":
                for rest in ("", "\n0 1", "\n-", "\n", "\n0  1"):
                    self.no_text(row + rest, 1)

    def test_the_empty_text_and_line_feeds(self):
        self.no_text("", 1)
        self.no_text("\n", 1)
        self.no_text("things 3\n", 2)
        self.no_text("things 3\n0 1\n", 3)
        self.no_text("things 3\n\n0 1", 2)
        self.no_text("\nthings 3", 1)
        self.no_text("things 3\n-\n-\n", 4)

    def test_rows_of_blocks(self):
        for row in WRONG_ROWS:
            self.no_text(f"things 9\n{row}", 2)
            self.no_text(f"things 9\n0 1\n-\n{row}", 4)
            self.no_text(f"things 9\n0 1\n{row}\n0 1", 3)
            self.no_text(f"things 9\n0 1\n{row}\n{row}", 3)

    def test_no_plan(self):
        self.no_plan("things 0", -1)
        self.no_plan("things 0\n0", -1)
        self.no_plan("things 3\n3", 0)
        self.no_plan("things 3\n0 1\n-\n1 0", 2)
        self.no_plan("things 3\n0 1\n1 1\n5", 1)
        self.no_plan("things 3\n999999", 0)
        self.no_plan("things 3\n0 1 2 3", 0)

    def test_no_text_is_told_ahead_of_no_plan(self):
        self.no_text("things 0\n", 2)
        self.no_text("things 0\n0\n01", 3)
        self.no_text("things 3\n5\n1 0\n0  1", 4)
        self.no_text("things 3\n9 9\nx\n0 0", 3)


class ReadSquare(unittest.TestCase):
    def no_text(self, text, line):
        for _ in range(2):
            with self.assertRaises(ValueError) as caught:
                read_square(text)
            self.assertIs(caught.exception.__class__, NoText, text)
            self.assertEqual(kinds_of(caught.exception.line), (int, line), text)

    def test_rows(self):
        for row in WRONG_ROWS + ("-",):
            self.no_text(row, 1)
            self.no_text(f"0 1\n{row}", 2)
            self.no_text(f"{row}\n0 1", 1)
            self.no_text(f"0 1 2\n1 2 0\n{row}", 3)
            self.no_text(f"0 1 2\n{row}\n{row}\n1", 2)

    def test_the_empty_text_and_line_feeds(self):
        self.no_text("", 1)
        self.no_text("\n", 1)
        self.no_text("0\n", 2)
        self.no_text("0 1\n1 0\n", 3)
        self.no_text("\n0", 1)

    def test_no_square(self):
        for text in ("1", "0 1", "0\n0", "0\n1", "0 1\n0 1", "0 0\n1 1", "0 1\n1", "0 1\n1 0 2", "0 1\n1 2", "0 999999\n1 0",
                     "0 1\n1 0\n0 1", "0 1 2\n1 2 0", "5"):
            self.assertIs(refusal_of(read_square, text), NoSquare, text)

    def test_no_text_is_told_ahead_of_no_square(self):
        self.no_text("5\n", 2)
        self.no_text("0 0\n1 1\n01", 3)
        self.no_text("0 1\n0 1\n ", 3)

    def test_names_of_arguments(self):
        self.assertEqual(read_square(text=show_square(square=[[0]])), [[0]])
        self.assertEqual(read_plan(text=show_plan(plan=(1, []))), (1, []))


if __name__ == "__main__":
    unittest.main()
