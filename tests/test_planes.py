"""Flat planes, their days and closed planes: point [9]."""

import unittest
from itertools import product

from evenblocks.errors import NoPlane
from evenblocks.evens import even_of
from evenblocks.planes import closed, flat, flat_days
from evenblocks.plans import checked
from tests.plain_fields import PLANE_ORDERS, plain_field
from tests.samples import SEVEN, kinds_of, plain_how_often, plain_uneven, refusal_of, whole_numbers


def places_where(order, is_in):
    return tuple(x * order + y for x, y in product(range(order), repeat=2) if is_in(x, y))


def plain_days(order):
    field = plain_field(order)
    days = []
    for slope in range(order):
        lines = [places_where(order, lambda x, y: y == field.plus[field.times[slope][x]][c]) for c in range(order)]
        days.append(sorted(lines))
    days.append(sorted(places_where(order, lambda x, y: x == c) for c in range(order)))
    return days


def plain_closed(order):
    many = order * order
    blocks = [tuple(sorted(block + (many + number,)))
              for number, day in enumerate(plain_days(order)) for block in day]
    blocks.append(tuple(many + number for number in range(order + 1)))
    return many + order + 1, sorted(blocks)


class Planes(unittest.TestCase):
    def test_by_hand(self):
        self.assertEqual(kinds_of(flat_days(2)),
                         kinds_of([[(0, 2), (1, 3)], [(0, 3), (1, 2)], [(0, 1), (2, 3)]]))
        self.assertEqual(kinds_of(flat(2)), kinds_of((4, [(0, 1), (0, 2), (0, 3), (1, 2), (1, 3), (2, 3)])))
        self.assertEqual(kinds_of(closed(2)), kinds_of(
            (7, [(0, 1, 6), (0, 2, 4), (0, 3, 5), (1, 2, 5), (1, 3, 4), (2, 3, 6), (4, 5, 6)])))
        self.assertEqual(flat_days(3), [
            [(0, 3, 6), (1, 4, 7), (2, 5, 8)], [(0, 4, 8), (1, 5, 6), (2, 3, 7)],
            [(0, 5, 7), (1, 3, 8), (2, 4, 6)], [(0, 1, 2), (3, 4, 5), (6, 7, 8)]])
        # In the field of four things 2 times 2 is 3, and 2 times 3 is 1.
        self.assertEqual(flat_days(4)[2], [(0, 6, 11, 13), (1, 7, 10, 12), (2, 4, 9, 15), (3, 5, 8, 14)])

    def test_days(self):
        for order in PLANE_ORDERS:
            with self.subTest(order):
                self.assertEqual(kinds_of(flat_days(order)), kinds_of(plain_days(order)))

    def test_flat(self):
        for order in PLANE_ORDERS:
            with self.subTest(order):
                blocks = sorted(block for day in plain_days(order) for block in day)
                self.assertEqual(kinds_of(flat(order)), kinds_of((order * order, blocks)))

    def test_closed(self):
        for order in PLANE_ORDERS:
            with self.subTest(order):
                self.assertEqual(kinds_of(closed(order)), kinds_of(plain_closed(order)))

    def test_even(self):
        for q in PLANE_ORDERS:
            with self.subTest(q):
                self.assertEqual(even_of(flat(q)), (q * q, q * q + q, q + 1, q, 1))
                self.assertEqual(even_of(closed(q)), (q * q + q + 1, q * q + q + 1, q + 1, q + 1, 1))

    def test_even_by_plain_counts(self):
        for q in PLANE_ORDERS[:6]:
            for plan in (flat(q), closed(q)):
                self.assertIs(checked(plan), True)
                self.assertIs(plain_uneven(plan), None)
                self.assertEqual(plain_how_often(plan, (0, 1)), 1)

    def test_each_day_has_each_thing_once(self):
        for q in PLANE_ORDERS:
            days = flat_days(q)
            self.assertEqual(len(days), q + 1)
            for day in days:
                self.assertEqual(day, sorted(day))
                self.assertEqual([len(block) for block in day], [q] * q)
                self.assertEqual(sorted(thing for block in day for thing in block), list(range(q * q)))

    def test_the_smallest_closed_plane_has_the_numbers_of_seven(self):
        self.assertEqual(even_of(closed(2)), even_of(SEVEN))

    def test_refused(self):
        for ask in (flat, flat_days, closed):
            for order in whole_numbers(-40, 200):
                due = None if order in PLANE_ORDERS else NoPlane
                self.assertIs(refusal_of(ask, order), due, (ask, order))

    def test_names_of_arguments(self):
        self.assertEqual((flat(order=3), flat_days(order=3), closed(order=3)), (flat(3), flat_days(3), closed(3)))


if __name__ == "__main__":
    unittest.main()
