"""Even plans, and what holds of their numbers: points [5] and [6]."""

import unittest

from evenblocks.evens import even_of, uneven_of
from evenblocks.plans import met_by
from tests.samples import (EIGHT, SEVEN, all_of_size, fours_of_eleven, kinds_of, one_size_plans, plain_how_often,
                           plain_uneven, rolled, tiny_plans)


def plain_even(plan):
    if plain_uneven(plan) is not None:
        return None
    many, blocks = plan
    last = many - 1
    return (many, len(blocks), plain_how_often(plan, (last,)), len(blocks[-1]), plain_how_often(plan, (last - 1, last)))


class Even(unittest.TestCase):
    def told(self, plan, answer):
        with self.subTest(plan=plan):
            self.assertEqual(kinds_of(even_of(plan)), kinds_of(answer))
            self.assertIs(uneven_of(plan), None)

    def test_known_plans(self):
        self.told(SEVEN, (7, 7, 3, 3, 1))
        self.told((7, SEVEN[1][::-1]), (7, 7, 3, 3, 1))
        self.told(EIGHT, (8, 14, 7, 4, 3))
        self.told(rolled(13, [(0, 1, 3, 9)]), (13, 13, 4, 4, 1))
        self.told(rolled(13, [(0, 1, 4), (0, 2, 7)]), (13, 26, 6, 3, 1))
        self.told(rolled(11, [(1, 3, 4, 5, 9)]), (11, 11, 5, 5, 2))
        self.told(fours_of_eleven(), (11, 66, 30, 5, 12))

    def test_all_blocks_of_one_size(self):
        self.told(all_of_size(3, 2), (3, 3, 2, 2, 1))
        self.told(all_of_size(5, 2), (5, 10, 4, 2, 1))
        self.told(all_of_size(6, 3), (6, 20, 10, 3, 4))
        self.told(all_of_size(6, 5), (6, 6, 5, 5, 4))

    def test_a_block_of_all_things(self):
        for many in (2, 3, 9, 200):
            self.told((many, [tuple(range(many))]), (many, 1, 1, many, 1))
            self.told((many, [tuple(range(many))] * 5), (many, 5, 5, many, 5))

    def test_blocks_told_twice(self):
        self.told((7, SEVEN[1] * 2), (7, 14, 6, 3, 2))
        self.told((7, sorted(SEVEN[1] * 3)), (7, 21, 9, 3, 3))
        self.told((2, [(0, 1), (0, 1)]), (2, 2, 2, 2, 2))


class Uneven(unittest.TestCase):
    def told(self, plan, answer):
        with self.subTest(plan=plan):
            self.assertEqual(kinds_of(uneven_of(plan)), kinds_of(answer))
            self.assertIs(even_of(plan), None)

    def test_few(self):
        for plan in ((1, []), (1, [(0,)]), (1, [()]), (1, [(), (0,)]), (2, []), (7, []), (200, [])):
            self.told(plan, ("few",))

    def test_small(self):
        self.told((2, [(0,)]), ("small", 0))
        self.told((2, [(), ()]), ("small", 0))
        self.told((3, [(0,), (1,), (2,)]), ("small", 0))
        self.told((3, [(0, 1), (0, 2), (), (1,)]), ("small", 2))
        self.told((7, SEVEN[1] + [(6,)]), ("small", 7))
        self.told((7, SEVEN[1] + [()]), ("small", 7))

    def test_small_goes_ahead_of_sizes(self):
        self.told((3, [(0, 1), (0, 1, 2), (2,), ()]), ("small", 2))
        self.told((3, [(0, 1, 2), (0, 1), ()]), ("small", 2))

    def test_sizes(self):
        self.told((3, [(0, 1), (0, 1, 2)]), ("sizes", 1))
        self.told((3, [(0, 1, 2), (0, 1)]), ("sizes", 1))
        self.told((4, [(0, 1), (2, 3), (0, 1, 2), (0, 2), (0, 1, 2, 3)]), ("sizes", 2))
        self.told((7, SEVEN[1] + [(0, 1, 2, 3)]), ("sizes", 7))
        self.told((7, SEVEN[1] + [(0, 1)]), ("sizes", 7))
        self.told((7, [(0, 1)] + SEVEN[1]), ("sizes", 1))
        # Each two things meet equally often here, but in blocks of two sizes.
        self.told((3, [(0, 1), (0, 2), (1, 2), (0, 1, 2)]), ("sizes", 3))

    def test_pairs(self):
        self.told((3, [(0, 1)]), ("pairs", 0, 2, 0, 1))
        self.told((3, [(0, 2)]), ("pairs", 0, 2, 1, 0))
        self.told((3, [(1, 2)]), ("pairs", 1, 2, 1, 0))
        self.told((3, [(0, 1), (0, 2)]), ("pairs", 1, 2, 0, 1))
        self.told((4, [(2, 3), (2, 3)]), ("pairs", 2, 3, 2, 0))
        self.told((7, SEVEN[1][:-1]), ("pairs", 2, 4, 0, 1))
        self.told((7, SEVEN[1][1:]), ("pairs", 0, 3, 1, 0))
        self.told((7, SEVEN[1] + [(4, 5, 6)]), ("pairs", 4, 5, 2, 1))
        self.told((200, [(198, 199)]), ("pairs", 198, 199, 1, 0))

    def test_pairs_go_by_one_and_then_by_other(self):
        # Things 1 and 2 part from 0 and 1 too, and 2 is below 3; but 0 is below 1.
        self.told((4, [(0, 1), (0, 2), (1, 3), (2, 3)]), ("pairs", 0, 3, 0, 1))

    def test_each_thing_equally_often_is_not_enough(self):
        self.told((4, [(0, 1), (2, 3)]), ("pairs", 0, 2, 0, 1))
        self.told(rolled(7, [(0, 1, 2)]), ("pairs", 0, 2, 1, 2))


class EachPlan(unittest.TestCase):
    def same(self, plan):
        self.assertEqual(kinds_of(even_of(plan)), kinds_of(plain_even(plan)), plan)
        self.assertEqual(kinds_of(uneven_of(plan)), kinds_of(plain_uneven(plan)), plan)

    def test_every_tiny_plan(self):
        for plan in tiny_plans():
            self.same(plan)

    def test_plans_of_one_size(self):
        for plan in one_size_plans():
            self.same(plan)


class Laws(unittest.TestCase):
    def test_numbers_of_even_plans(self):
        seen = set()
        for plan in list(one_size_plans()) + list(tiny_plans()):
            told = even_of(plan)
            if told is None:
                continue
            seen.add(told)
            many, blocks, each, size, meet = told
            self.assertEqual((many, blocks), (plan[0], len(plan[1])))
            self.assertEqual(many * each, blocks * size)
            self.assertEqual(each * (size - 1), meet * (many - 1))
            self.assertTrue(blocks >= many or size == many, told)
            self.assertEqual([met_by(plan, few) for few in range(3)], [blocks, each, meet])
        self.assertGreater(len(seen), 40)

    def test_met_by_of_lesser_numbers(self):
        numbers = [0] * 5
        for plan in one_size_plans():
            size = min([len(block) for block in plan[1]], default=4)
            told = [met_by(plan, few) for few in range(min(plan[0], 4) + 1)]
            for few, number in enumerate(told):
                if few <= size and number is not None:
                    numbers[few] += 1
                    self.assertNotIn(None, told[:few], plan)
        self.assertGreater(min(numbers), 10)


if __name__ == "__main__":
    unittest.main()
