"""Squares, how they are laid over one another, and those that are told: points [14] and [15]."""

import unittest
from copy import deepcopy
from itertools import combinations, product

from evenblocks.errors import NoField, NoSize, NoSquare, Unlike
from evenblocks.squares import checked_square, crossed, field_squares, many_squares, same_pair
from tests.plain_fields import ORDERS
from tests.plain_squares import (POWERS, all_squares, is_square, laid_evenly, plain_crossed, plain_field_squares,
                                 plain_many_squares, plain_same_pair, rows_turned)
from tests.samples import HUGE, kinds_of, refusal_of, whole_numbers

THREES = [rows_turned(3, 1), rows_turned(3, 2)]


class Checked(unittest.TestCase):
    def refused(self, rows):
        for _ in range(2):
            self.assertIs(refusal_of(checked_square, rows), NoSquare, rows)

    def test_squares(self):
        for rows in [[[0]], [[0, 1], [1, 0]], [[1, 0], [0, 1]]] + THREES:
            for _ in range(2):
                self.assertIs(checked_square(rows), True)
        for size in range(1, 31):
            self.assertIs(checked_square(rows_turned(size)), True)

    def test_all_lists_of_two_rows(self):
        found = 0
        for letters in product(range(-1, 4), repeat=4):
            rows = [list(letters[:2]), list(letters[2:])]
            found += is_square(rows)
            self.assertIs(refusal_of(checked_square, rows), None if is_square(rows) else NoSquare, rows)
        self.assertEqual(found, 2)

    def test_all_lists_of_three_rows(self):
        found = 0
        for letters in product(range(3), repeat=9):
            rows = [list(letters[:3]), list(letters[3:6]), list(letters[6:])]
            found += is_square(rows)
            self.assertIs(refusal_of(checked_square, rows), None if is_square(rows) else NoSquare, rows)
        self.assertEqual(found, 12)

    def test_no_rows_and_no_letters(self):
        self.refused([])
        self.refused([[]])
        self.refused([[], []])

    def test_a_row_less_or_more(self):
        for size in (2, 3, 5):
            square = rows_turned(size)
            self.refused(square[:-1])
            self.refused(square[1:])
            self.refused(square + [square[0]])
            self.refused(square + [[]])
            self.refused(square + [[size] * size])
        self.refused([[0], [0]])
        self.refused([[0], [1]])

    def test_a_letter_less_or_more(self):
        for size in (1, 2, 3, 5):
            for place in range(size):
                for changed in ([], [0], list(range(size + 1)), list(range(size)) + [0], list(range(size - 1))):
                    if len(changed) != size:
                        rows = rows_turned(size)
                        rows[place] = changed
                        self.refused(rows)
            self.refused([row + [size] for row in rows_turned(size)])
            self.refused([row[:-1] for row in rows_turned(size)])

    def test_a_letter_that_is_none(self):
        for size in (1, 2, 4):
            for i, j in product(range(size), repeat=2):
                for letter in (-1, -size, size, size + 1, 10 ** 60, -10 ** 60) + HUGE:
                    rows = rows_turned(size)
                    rows[i][j] = letter
                    self.refused(rows)

    def test_a_letter_twice_in_a_row(self):
        self.refused([[0, 0], [1, 1]])
        self.refused([[0, 0, 0], [1, 1, 1], [2, 2, 2]])
        self.refused([[0, 1, 1], [1, 2, 0], [2, 0, 1]])

    def test_a_letter_twice_in_a_column(self):
        self.refused([[0, 1], [0, 1]])
        self.refused([[0, 1, 2]] * 3)
        self.refused([[0, 1, 2], [1, 2, 0], [2, 1, 0]])
        self.refused([[0, 1, 2, 3], [1, 0, 3, 2], [2, 3, 0, 1], [2, 3, 1, 0]])


class SamePair(unittest.TestCase):
    def told(self, one, other, answer):
        self.assertEqual(kinds_of(same_pair(one, other)), kinds_of(answer), (one, other))

    def test_laid_over_evenly(self):
        self.told([[0]], [[0]], None)
        self.told(THREES[0], THREES[1], None)
        self.told(THREES[1], THREES[0], None)
        for one, other in combinations([rows_turned(7, step) for step in range(1, 7)], 2):
            self.told(one, other, None)

    def test_a_square_with_itself(self):
        self.told([[0, 1], [1, 0]], [[0, 1], [1, 0]], (0, 1, 1, 0))
        self.told(THREES[0], THREES[0], (0, 1, 1, 0))
        self.told(THREES[1], THREES[1], (0, 2, 1, 0))

    def test_by_hand(self):
        self.told([[0, 1], [1, 0]], [[1, 0], [0, 1]], (0, 1, 1, 0))
        one = [[0, 1, 2, 3], [1, 0, 3, 2], [2, 3, 0, 1], [3, 2, 1, 0]]
        other = [[0, 1, 2, 3], [2, 3, 0, 1], [3, 2, 1, 0], [1, 0, 3, 2]]
        self.told(one, other, None)
        # Here the first two rows are laid over evenly, and what is the same comes later.
        self.told(one, [other[0], other[2], other[1], other[3]], (0, 2, 2, 0))
        self.told(rows_turned(5, 1), rows_turned(5, 2)[:2] + rows_turned(5, 2)[:1:-1], (1, 1, 2, 0))
        self.told([[0, 1, 2], [1, 2, 0], [2, 0, 1]], [[0, 1, 2], [2, 0, 1], [1, 2, 0]], None)
        self.told([[0, 1, 2], [2, 0, 1], [1, 2, 0]], [[1, 0, 2], [0, 2, 1], [2, 1, 0]], None)

    def test_of_unlike_sizes(self):
        for one, other in product(range(1, 7), repeat=2):
            due = None if one == other else Unlike
            self.assertIs(refusal_of(same_pair, rows_turned(one), rows_turned(other)), due)

    def test_every_two_small_squares(self):
        for size in (1, 2, 3):
            for one, other in product(list(all_squares(size)), repeat=2):
                self.told(one, other, plain_same_pair(one, other))
                self.assertEqual(same_pair(one, other) is None, laid_evenly(one, other))

    def test_squares_of_four(self):
        squares = list(all_squares(4))
        self.assertEqual(len(squares), 576)
        even = 0
        for one in squares[::80]:
            for other in squares:
                self.told(one, other, plain_same_pair(one, other))
                even += same_pair(one, other) is None
        self.assertGreater(even, 0)

    def test_large_squares(self):
        for size in (15, 16, 25):
            for step in (1, 2, 4, 7):
                one, other = rows_turned(size), rows_turned(size, step)
                self.told(one, other, plain_same_pair(one, other))


class FieldSquares(unittest.TestCase):
    def test_by_hand(self):
        self.assertEqual(kinds_of(field_squares(2)), kinds_of([[[0, 1], [1, 0]]]))
        self.assertEqual(kinds_of(field_squares(3)), kinds_of(THREES))
        self.assertEqual(field_squares(4)[1], [[0, 1, 2, 3], [2, 3, 0, 1], [3, 2, 1, 0], [1, 0, 3, 2]])

    def test_letter_by_letter(self):
        for order in ORDERS:
            with self.subTest(order):
                self.assertEqual(kinds_of(field_squares(order)), kinds_of(plain_field_squares(order)))

    def test_each_two_laid_over_evenly(self):
        for order in ORDERS:
            squares = field_squares(order)
            self.assertEqual(len(squares), order - 1)
            for square in squares:
                self.assertIs(checked_square(square), True)
            for one, other in combinations(squares, 2):
                self.assertTrue(laid_evenly(one, other))
            for one, other in list(combinations(squares, 2))[::10]:
                self.assertIs(same_pair(one, other), None)

    def test_refused(self):
        for order in whole_numbers(-40, 150):
            self.assertIs(refusal_of(field_squares, order), None if order in ORDERS else NoField, order)


class Crossed(unittest.TestCase):
    def test_by_hand(self):
        two = [[0, 1], [1, 0]]
        self.assertEqual(kinds_of(crossed(two, two)),
                         kinds_of([[0, 1, 2, 3], [1, 0, 3, 2], [2, 3, 0, 1], [3, 2, 1, 0]]))
        self.assertEqual(crossed(two, THREES[0])[4], [4, 5, 3, 1, 2, 0])
        self.assertEqual(crossed(THREES[0], two)[4], [4, 5, 0, 1, 2, 3])

    def test_with_the_square_of_one_letter(self):
        for square in ([[0]], [[1, 0], [0, 1]], THREES[1], rows_turned(64, 5)):
            self.assertEqual(kinds_of(crossed(square, [[0]])), kinds_of(square))
            self.assertEqual(kinds_of(crossed([[0]], square)), kinds_of(square))

    def test_letter_by_letter(self):
        samples = [rows_turned(size, step) for size, step in
                   ((1, 1), (2, 1), (3, 2), (4, 3), (5, 2), (7, 3), (8, 5), (16, 3), (21, 8), (32, 7))]
        for one, other in product(samples, repeat=2):
            if len(one) * len(other) <= 64:
                told = crossed(one, other)
                self.assertEqual(kinds_of(told), kinds_of(plain_crossed(one, other)))
                self.assertIs(checked_square(told), True)

    def test_crossed_from_evenly_laid_ones(self):
        sets = [field_squares(order)[:3] for order in (3, 4, 5, 7, 8)] + [[rows_turned(1)] * 2]
        for left, right in product(sets, repeat=2):
            for one, two in combinations(left, 2):
                for three, four in combinations(right, 2):
                    self.assertIs(same_pair(crossed(one, three), crossed(two, four)), None)

    def test_crossed_from_others(self):
        one, two = rows_turned(4, 1), rows_turned(4, 3)
        self.assertIsNot(same_pair(one, two), None)
        self.assertIsNot(same_pair(crossed(one, THREES[0]), crossed(two, THREES[1])), None)


class ManySquares(unittest.TestCase):
    def test_how_many(self):
        due = [min(POWERS[size]) - 1 for size in range(2, 31)]
        self.assertEqual([len(many_squares(size)) for size in range(2, 31)], due)
        self.assertEqual(due[:13], [1, 2, 3, 4, 1, 6, 7, 8, 1, 10, 2, 12, 1])

    def test_letter_by_letter(self):
        for size in range(2, 31):
            with self.subTest(size):
                self.assertEqual(kinds_of(many_squares(size)), kinds_of(plain_many_squares(size)))

    def test_each_two_laid_over_evenly(self):
        for size in range(2, 31):
            squares = many_squares(size)
            for square in squares:
                self.assertIs(checked_square(square), True)
            for one, other in combinations(squares, 2):
                self.assertTrue(laid_evenly(one, other))
            self.assertLessEqual(len(squares), size - 1)

    def test_refused(self):
        for size in whole_numbers(-40, 100):
            self.assertIs(refusal_of(many_squares, size), None if 2 <= size <= 30 else NoSize, size)

    def test_not_more_than_size_less_one(self):
        for size in (2, 3):
            squares = list(all_squares(size))
            for few in combinations(squares, size):
                self.assertFalse(all(same_pair(one, other) is None for one, other in combinations(few, 2)))


class Names(unittest.TestCase):
    def test_names_of_arguments(self):
        two = [[0, 1], [1, 0]]
        self.assertIs(checked_square(rows=two), True)
        self.assertEqual(same_pair(other=two, one=deepcopy(two)), (0, 1, 1, 0))
        self.assertEqual(field_squares(order=2), many_squares(size=2))
        self.assertEqual(crossed(other=[[0]], one=two), two)


if __name__ == "__main__":
    unittest.main()
