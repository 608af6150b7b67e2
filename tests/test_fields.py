"""Fields: points [7] and [8]."""

import unittest
from itertools import product

from evenblocks.errors import BlockError, ByNought, NoField
from evenblocks.fields import Field, field_of
from tests.plain_fields import ORDERS, all_digits, multiplied, plain_field
from tests.samples import kinds_of, refusal_of, whole_numbers

RULES = {4: (1, 1, 1), 8: (1, 1, 0, 1), 9: (1, 0, 1), 16: (1, 1, 0, 0, 1), 25: (2, 0, 1), 27: (1, 2, 0, 1),
         32: (1, 0, 1, 0, 0, 1)}


class Values(unittest.TestCase):
    def test_each_order(self):
        for order, (prime, deep) in ORDERS.items():
            with self.subTest(order):
                field = field_of(order)
                self.assertIsInstance(field, Field)
                self.assertEqual(kinds_of((field.order, field.prime, field.deep)), kinds_of((order, prime, deep)))
                self.assertEqual(prime ** deep, order)
                self.assertEqual(kinds_of(field.rule), kinds_of(RULES.get(order, (0, 1))))

    def test_values_are_set_on_each_object(self):
        for order in ORDERS:
            self.assertLessEqual({"order", "prime", "deep", "rule"}, set(vars(field_of(order))))

    def test_the_rule_is_the_first_that_is_no_product(self):
        for order in ORDERS:
            with self.subTest(order):
                self.assertEqual(field_of(order).rule, plain_field(order).rule)

    def test_each_rule_ahead_is_a_product(self):
        for order, (prime, deep) in ORDERS.items():
            rule = field_of(order).rule
            self.assertEqual((len(rule), rule[-1]), (deep + 1, 1))
            ahead = [digits for digits in all_digits(prime, deep + 1) if digits[-1] == 1]
            ahead = ahead[:ahead.index(rule)]
            shorter = [digits for size in range(2, deep + 1) for digits in all_digits(prime, size) if digits[-1]]
            products = {multiplied(one, other, prime) for one, other in product(shorter, repeat=2)}
            self.assertLessEqual(set(ahead), products)
            self.assertNotIn(rule, products)

    def test_refused(self):
        told = [order for order in whole_numbers(-100, 1100) if refusal_of(field_of, order) is None]
        self.assertEqual(told, sorted(ORDERS))
        for order in whole_numbers(-100, 1100):
            if order not in ORDERS:
                self.assertIs(refusal_of(field_of, order), NoField)

    def test_methods_stand_in_the_class_itself(self):
        for name in ("plus", "minus", "times", "over"):
            self.assertIn(name, vars(Field))


class Doing(unittest.TestCase):
    def test_by_hand(self):
        for order, one, other, plus, minus, times in (
                (2, 1, 1, 0, 0, 1), (3, 1, 2, 0, 2, 2), (4, 2, 3, 1, 1, 1), (4, 2, 2, 0, 0, 3), (4, 3, 3, 0, 0, 2),
                (5, 3, 4, 2, 4, 2), (7, 3, 5, 1, 5, 1), (8, 2, 4, 6, 6, 3), (8, 4, 4, 0, 0, 6), (9, 3, 3, 6, 0, 2),
                (9, 4, 5, 6, 2, 1), (9, 1, 3, 4, 7, 3), (16, 2, 8, 10, 10, 3), (25, 5, 5, 10, 0, 3),
                (25, 1, 5, 6, 21, 5), (27, 3, 9, 12, 21, 5), (32, 2, 16, 18, 18, 5), (31, 30, 30, 29, 0, 1)):
            field = field_of(order)
            with self.subTest(order=order, one=one, other=other):
                told = (field.plus(one, other), field.minus(one, other), field.times(one, other))
                self.assertEqual(kinds_of(told), kinds_of((plus, minus, times)))

    def test_all_two_things_of_all_fields(self):
        for order in ORDERS:
            field, plain = field_of(order), plain_field(order)
            for one, other in product(range(order), repeat=2):
                told = (field.plus(one, other), field.minus(one, other), field.times(one, other))
                due = (plain.plus[one][other], plain.minus[one][other], plain.times[one][other])
                self.assertEqual(kinds_of(told), kinds_of(due), (order, one, other))

    def test_over_of_all_two_things_of_all_fields(self):
        for order in ORDERS:
            field, plain = field_of(order), plain_field(order)
            for one, other in product(range(order), range(1, order)):
                due = [thing for thing in range(order) if plain.times[thing][other] == one]
                self.assertEqual(kinds_of([field.over(one, other)]), kinds_of(due), (order, one, other))

    def test_over_by_hand(self):
        for order, one, other, over in ((2, 1, 1, 1), (2, 0, 1, 0), (4, 1, 2, 3), (5, 3, 4, 2), (7, 1, 3, 5),
                                        (8, 3, 4, 2), (9, 2, 3, 3), (9, 1, 3, 6), (13, 1, 12, 12), (32, 5, 16, 2)):
            self.assertEqual(kinds_of(field_of(order).over(one, other)), (int, over), (order, one, other))

    def test_over_by_nought(self):
        for order in ORDERS:
            field = field_of(order)
            for thing in range(order):
                with self.assertRaises(BlockError) as caught:
                    field.over(thing, 0)
                self.assertIs(type(caught.exception), ByNought)
            self.assertEqual(field.over(1, 1), 1)

    def test_names_of_arguments(self):
        field = field_of(order=9)
        self.assertEqual((field.plus(one=1, other=3), field.minus(other=3, one=1)), (4, 7))
        self.assertEqual((field.times(one=3, other=3), field.over(other=3, one=1)), (2, 6))


class Rules(unittest.TestCase):
    def test_the_rules_of_point_8(self):
        for order in ORDERS:
            with self.subTest(order):
                self.rules_of(field_of(order))

    def rules_of(self, field):
        things = range(field.order)
        plus = [[field.plus(one, other) for other in things] for one in things]
        times = [[field.times(one, other) for other in things] for one in things]
        for one, other in product(things, repeat=2):
            self.assertIn(plus[one][other], things)
            self.assertIn(times[one][other], things)
            self.assertEqual(plus[one][other], plus[other][one])
            self.assertEqual(times[one][other], times[other][one])
            self.assertEqual(field.minus(plus[one][other], other), one)
            self.assertEqual(plus[field.minus(one, other)][other], one)
        for one, other, third in product(things, repeat=3):
            self.assertEqual(plus[plus[one][other]][third], plus[one][plus[other][third]])
            self.assertEqual(times[times[one][other]][third], times[one][times[other][third]])
            self.assertEqual(times[one][plus[other][third]], plus[times[one][other]][times[one][third]])
        for one in things:
            self.assertEqual((plus[0][one], plus[one][0], times[1][one], times[one][1]), (one,) * 4)
            self.assertEqual(times[one].count(1), 0 if one == 0 else 1)


if __name__ == "__main__":
    unittest.main()
