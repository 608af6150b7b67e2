"""Spaces, their lines and sheets: point [10]."""

import unittest
from itertools import combinations, product

from evenblocks.errors import NoPlane
from evenblocks.evens import even_of
from evenblocks.planes import flat
from evenblocks.plans import checked, met_by
from evenblocks.spaces import sheets, space
from tests.plain_fields import plain_field
from tests.samples import HUGE, EIGHT, kinds_of, plain_how_often, plain_uneven, refusal_of, whole_numbers

TOLD = ((2, 2), (2, 3), (2, 4), (2, 5), (2, 6), (3, 2), (3, 3), (4, 2), (4, 3), (5, 2), (7, 2), (8, 2))


def rows_of(order, deep):
    """All rows with their numbers, the first thing of a row being the least digit."""
    return {row: sum(thing * order ** at for at, thing in enumerate(row)) for row in product(range(order), repeat=deep)}


def plain_space(order, deep):
    field, rows = plain_field(order), rows_of(order, deep)
    lines = set()
    for place in rows:
        for step in rows:
            if any(step):
                lines.add(tuple(sorted(
                    rows[tuple(field.plus[x][field.times[thing][y]] for x, y in zip(place, step))]
                    for thing in range(order))))
    return order ** deep, sorted(lines)


def plain_sheets(order, deep):
    field, rows = plain_field(order), rows_of(order, deep)
    found = set()
    for factors in rows:
        if any(factors):
            sums = {}
            for row, number in rows.items():
                total = 0
                for factor, thing in zip(factors, row):
                    total = field.plus[total][field.times[factor][thing]]
                sums.setdefault(total, []).append(number)
            for c in range(order):
                found.add(tuple(sorted(sums[c])))
    return order ** deep, sorted(found)


class Spaces(unittest.TestCase):
    def test_by_hand(self):
        self.assertEqual(kinds_of(space(2, 2)), kinds_of((4, [(0, 1), (0, 2), (0, 3), (1, 2), (1, 3), (2, 3)])))
        self.assertEqual(space(2, 6), (64, list(combinations(range(64), 2))))
        self.assertEqual(kinds_of(sheets(2, 3)), kinds_of((8, EIGHT[1])))
        self.assertEqual(space(3, 3)[1][:5], [(0, 1, 2), (0, 3, 6), (0, 4, 8), (0, 5, 7), (0, 9, 18)])
        self.assertEqual(sheets(3, 3)[1][0], tuple(range(9)))

    def test_lines(self):
        for order, deep in TOLD:
            with self.subTest(order=order, deep=deep):
                self.assertEqual(kinds_of(space(order, deep)), kinds_of(plain_space(order, deep)))

    def test_sheets(self):
        for order, deep in TOLD:
            with self.subTest(order=order, deep=deep):
                self.assertEqual(kinds_of(sheets(order, deep)), kinds_of(plain_sheets(order, deep)))

    def test_each_block_once_and_sorted(self):
        for order, deep in TOLD:
            for many, blocks in (space(order, deep), sheets(order, deep)):
                self.assertIs(checked((many, blocks)), True)
                self.assertEqual(blocks, sorted(set(blocks)))

    def test_even(self):
        for q, deep in TOLD:
            n = q ** deep
            with self.subTest(order=q, deep=deep):
                self.assertEqual(even_of(space(q, deep)),
                                 (n, n * (n - 1) // (q * (q - 1)), (n - 1) // (q - 1), q, 1))
                self.assertEqual(even_of(sheets(q, deep)),
                                 (n, q * (n - 1) // (q - 1), (n - 1) // (q - 1), n // q, (n // q - 1) // (q - 1)))

    def test_even_by_plain_counts(self):
        for order, deep in TOLD:
            if order ** deep <= 27:
                for plan in (space(order, deep), sheets(order, deep)):
                    self.assertIs(plain_uneven(plan), None)

    def test_each_three_things_in_sheets_of_order_two(self):
        for deep in range(2, 7):
            n = 2 ** deep
            plan = sheets(2, deep)
            self.assertEqual(met_by(plan, 3), n // 4 - 1)
            for three in list(combinations(range(n), 3))[::29]:
                self.assertEqual(plain_how_often(plan, three), n // 4 - 1)

    def test_two_deep_they_are_the_flat_plane(self):
        for order in (2, 3, 4, 5, 7, 8):
            self.assertEqual(space(order, 2), flat(order))
            self.assertEqual(sheets(order, 2), flat(order))

    def test_refused(self):
        for ask in (space, sheets):
            for order, deep in product(range(-3, 35), range(-3, 13)):
                if (order, deep) not in TOLD:
                    self.assertIs(refusal_of(ask, order, deep), NoPlane, (order, deep))
            for order, deep in TOLD:
                self.assertIs(refusal_of(ask, order, deep), None)

    def test_far_numbers_are_refused(self):
        far = [-number for number in HUGE] + list(HUGE)
        for ask in (space, sheets):
            for number in whole_numbers(-3, 35):
                for other in far:
                    self.assertIs(refusal_of(ask, number, other), NoPlane)
                    self.assertIs(refusal_of(ask, other, number), NoPlane)

    def test_names_of_arguments(self):
        self.assertEqual((space(order=3, deep=2), sheets(deep=2, order=3)), (space(3, 2), sheets(3, 2)))


if __name__ == "__main__":
    unittest.main()
