"""Plans of triples: point [13]."""

import unittest
from collections import Counter
from itertools import combinations

from evenblocks.errors import NoTriples
from evenblocks.evens import even_of
from evenblocks.plans import checked
from evenblocks.triples import triples
from tests.samples import kinds_of, refusal_of, whole_numbers

TOLD = [many for many in range(3, 100) if many % 6 in (1, 3)]


class Triples(unittest.TestCase):
    def test_the_least_ones(self):
        self.assertEqual(kinds_of(triples(3)), kinds_of((3, [(0, 1, 2)])))
        self.assertEqual(len(triples(7)[1]), 7)
        self.assertEqual(len(TOLD), 33)

    def test_each_two_stand_together_once(self):
        for many in TOLD:
            with self.subTest(many):
                plan = triples(many)
                self.assertEqual(plan[0], many)
                pairs = Counter(pair for block in plan[1] for pair in combinations(block, 2))
                self.assertEqual(pairs, Counter(combinations(range(many), 2)))

    def test_even(self):
        for many in TOLD:
            with self.subTest(many):
                due = (many, many * (many - 1) // 6, (many - 1) // 2, 3, 1)
                self.assertEqual(kinds_of(even_of(triples(many))), kinds_of(due))

    def test_blocks_are_sorted_and_rising(self):
        for many in TOLD:
            with self.subTest(many):
                plan = triples(many)
                self.assertIs(checked(plan), True)
                self.assertEqual(plan[1], sorted(plan[1]))
                for block in plan[1]:
                    self.assertEqual(kinds_of(block), kinds_of(tuple(sorted(set(block)))))
                    self.assertEqual(len(block), 3)
                self.assertEqual((plan.__class__, plan[1].__class__), (tuple, list))

    def test_refused(self):
        for many in whole_numbers(-130, 300) + [6 * 10 ** 59 + 3, 6 * 10 ** 59 + 1, -6 * 10 ** 59 + 3, 103, 105]:
            self.assertIs(refusal_of(triples, many), None if many in TOLD else NoTriples, many)

    def test_name_of_argument(self):
        self.assertEqual(triples(many=9), triples(9))


if __name__ == "__main__":
    unittest.main()
