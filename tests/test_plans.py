"""Plans and how often things meet in them: points [3] and [4]."""

import unittest
from itertools import combinations, permutations

from evenblocks.errors import BlockError, NoPlan
from evenblocks.plans import checked, how_often, met_by
from tests.samples import (EIGHT, SEVEN, all_of_size, fours_of_eleven, kinds_of, one_size_plans, plain_how_often,
                           plain_met_by, rolled, tiny_plans)

FAR = 10 ** 49


class Checked(unittest.TestCase):
    def refused(self, plan, place):
        for _ in range(2):
            with self.subTest(plan=plan), self.assertRaises(BlockError) as caught:
                checked(plan)
            self.assertIs(type(caught.exception), NoPlan)
            self.assertEqual(kinds_of(caught.exception.place), (int, place))

    def test_plans(self):
        for plan in (SEVEN, EIGHT, (1, []), (1, [()]), (1, [(0,)]), (1, [(0,), (), (0,)]), (5, []),
                     (3, [()]), (3, [(0, 1), (), (2,)]), (4, [(0, 3), (0, 3), (0, 3)]), (2, [(), ()]),
                     (3, [(2,), (1, 2), (0, 1, 2), (0,)]), (200, [tuple(range(200))] * 3),
                     (FAR, [(0, FAR - 1), (FAR - 2, FAR - 1)])):
            for _ in range(2):
                self.assertIs(checked(plan), True)

    def test_every_tiny_plan(self):
        for plan in tiny_plans():
            self.assertIs(checked(plan), True)

    def test_many_below_one(self):
        for many in (0, -1, -2, -7, -FAR, 1 - 10 * FAR):
            self.refused((many, []), -1)
            self.refused((many, [()]), -1)

    def test_many_below_one_is_told_ahead_of_blocks(self):
        for many in (0, -1, -FAR):
            self.refused((many, [(0,)]), -1)
            self.refused((many, [(), (2, 1), (5, 5)]), -1)

    def test_what_is_no_thing(self):
        self.refused((3, [(3,)]), 0)
        self.refused((3, [(0, 1), (0, 1, 3)]), 1)
        self.refused((3, [(0, 1), (), (4,)]), 2)
        self.refused((1, [(0,), (1,)]), 1)
        self.refused((3, [(0, FAR)]), 0)
        self.refused((FAR, [(0,), (FAR,)]), 1)
        self.refused((3, [(-1,)]), 0)
        self.refused((3, [(0,), (-1, 0, 1)]), 1)
        self.refused((3, [(0,), (1,), (-FAR, 2)]), 2)
        self.refused((3, [(0, -1)]), 0)

    def test_what_is_not_rising(self):
        self.refused((3, [(1, 1)]), 0)
        self.refused((3, [(0, 1), (0, 0)]), 1)
        self.refused((3, [(0, 1, 1)]), 0)
        self.refused((3, [(1, 0)]), 0)
        self.refused((4, [(0, 1), (0, 2, 1)]), 1)
        self.refused((4, [(0, 1), (), (0, 1, 3, 2)]), 2)
        self.refused((4, [(1, 2, 0)]), 0)
        self.refused((4, [(0, 2, 0)]), 0)

    def test_the_first_of_several_faults(self):
        self.refused((3, [(0,), (2, 1), (5,), (-1,)]), 1)
        self.refused((3, [(0,), (5,), (2, 1)]), 1)
        self.refused((3, [(0,), (0, 1), (-1,), (2, 2), (3,)]), 2)
        self.refused((3, [(0, 1, 2)] * 9 + [(1, 0), (7,)]), 9)
        self.refused((3, [(4, 4), (0,)]), 0)

    def test_every_pair_of_numbers(self):
        for one in range(-3, 7):
            for other in range(-3, 7):
                plan = (4, [(0, 3), (one, other), (9,)])
                self.refused(plan, 2 if 0 <= one < other < 4 else 1)

    def test_a_refusal_leaves_nothing_behind(self):
        self.refused((3, [(3,)]), 0)
        self.assertIs(checked((3, [(2,)])), True)
        self.refused((3, [(2,), (3,)]), 1)


class HowOften(unittest.TestCase):
    def test_no_thing(self):
        for plan, number in ((SEVEN, 7), (EIGHT, 14), ((3, []), 0), ((1, [()]), 1), ((2, [(), (), (0,)]), 3)):
            self.assertEqual(kinds_of(how_often(plan, ())), (int, number))

    def test_one_thing(self):
        for thing in range(7):
            self.assertEqual(kinds_of(how_often(SEVEN, (thing,))), (int, 3))
        plan = (4, [(), (0,), (0, 1), (0, 1), (0, 1, 2)])
        self.assertEqual([how_often(plan, (thing,)) for thing in range(4)], [4, 3, 1, 0])

    def test_several_things_in_any_order(self):
        plan = (5, [(0, 1, 2, 3), (0, 1, 2), (0, 1, 2), (1, 2, 3), (0, 2), (), (3, 4)])
        for things, number in (((0, 1), 3), ((1, 2), 4), ((0, 2), 4), ((0, 3), 1), ((3, 4), 1), ((0, 4), 0),
                               ((0, 1, 2), 3), ((1, 2, 3), 2), ((0, 1, 2, 3), 1), ((1, 2, 4), 0),
                               ((0, 1, 2, 3, 4), 0)):
            for turned in permutations(things):
                with self.subTest(things=turned):
                    self.assertEqual(kinds_of(how_often(plan, turned)), (int, number))

    def test_all_things(self):
        self.assertEqual(how_often((3, [(0, 1, 2), (0, 1), (0, 1, 2)]), (2, 0, 1)), 2)
        self.assertEqual(how_often((1, [(0,), ()]), (0,)), 1)
        self.assertEqual(how_often((200, [tuple(range(200)), tuple(range(199))]), tuple(range(199, -1, -1))), 1)

    def test_things_that_never_meet(self):
        self.assertEqual(kinds_of(how_often((4, [(0, 1), (2, 3)]), (1, 2))), (int, 0))
        self.assertEqual(kinds_of(how_often((4, []), (0,))), (int, 0))
        self.assertEqual(kinds_of(how_often((4, [(), ()]), (3,))), (int, 0))

    def test_every_tiny_plan(self):
        for plan in tiny_plans():
            for few in range(plan[0] + 1):
                for things in combinations(reversed(range(plan[0])), few):
                    self.assertEqual(how_often(plan, things), plain_how_often(plan, things))


class MetBy(unittest.TestCase):
    def told(self, plan, answers):
        for few, answer in enumerate(answers):
            with self.subTest(plan=plan, few=few):
                self.assertEqual(kinds_of(met_by(plan, few)), kinds_of(answer))

    def test_known_plans(self):
        self.told(SEVEN, [7, 3, 1, None, 0])
        self.told(EIGHT, [14, 7, 3, 1, None])
        self.told(fours_of_eleven(), [66, 30, 12, 4, 1])
        self.told(all_of_size(6, 4), [15, 10, 6, 3, 1])
        self.told(all_of_size(7, 6), [7, 6, 5, 4, 3])
        self.told(rolled(13, [(0, 1, 3, 9)]), [13, 4, 1, None, None])

    def test_few_equal_to_many(self):
        self.told((1, [(0,), (), (0,)]), [3, 2])
        self.told((2, [(0, 1), (0, 1), (0,), (1,)]), [4, 3, 2])
        self.told((3, [(0, 1, 2), (0, 1)]), [2, None, None, 1])
        self.told((4, [(0, 1, 2, 3), (0, 1, 2, 3), ()]), [3, 2, 2, 2, 2])

    def test_not_one_number(self):
        self.told((2, [(0,)]), [1, None, 0])
        self.told((4, [(0, 1), (2, 3)]), [2, 1, None, 0, 0])
        # Only the last few things are unlike the others.
        self.told((5, [(3, 4)]), [1, None, None, 0, 0])
        self.told((5, [(1, 2, 3, 4)]), [1, None, None, None, None])
        self.told((6, [(2, 3, 4, 5)] + all_of_size(6, 4)[1]), [16, None, None, None, None])
        self.told((6, all_of_size(6, 4)[1][:-1]), [14, None, None, None, None])

    def test_one_number_for_more_but_not_for_fewer(self):
        self.told((3, [(0,), (0, 1, 2)]), [2, None, 1, 1])
        self.told((6, [(0, 1), (0, 1, 2, 3, 4, 5)]), [2, None, None, 1, 1])

    def test_nowhere_together(self):
        self.told((5, [(0,), (1,), (2,), (3,), (4,)]), [5, 1, 0, 0, 0])
        self.told((5, all_of_size(5, 2)[1]), [10, 4, 1, 0, 0])
        self.told((5, [(), ()]), [2, 0, 0, 0, 0])

    def test_no_blocks(self):
        for many in range(1, 6):
            self.told((many, []), [0] * (min(many, 4) + 1))
        self.told((200, []), [0] * 5)

    def test_large_plans(self):
        whole = tuple(range(200))
        self.told((200, [whole] * 3), [3] * 5)
        self.told((200, [whole] * 3 + [()] * 1997), [2000, 3, 3, 3, 3])
        self.told((200, [whole, whole[:-1]]), [2, None, None, None, None])
        self.told((200, [whole, whole[1:]]), [2, None, None, None, None])
        self.told((200, [(thing,) for thing in whole]), [200, 1, 0, 0, 0])

    def test_every_tiny_plan(self):
        for plan in tiny_plans():
            for few in range(min(plan[0], 4) + 1):
                self.assertEqual(kinds_of(met_by(plan, few)), kinds_of(plain_met_by(plan, few)), (plan, few))

    def test_plans_of_one_size(self):
        for plan in one_size_plans():
            for few in range(min(plan[0], 4) + 1):
                self.assertEqual(met_by(plan, few), plain_met_by(plan, few), (plan, few))


if __name__ == "__main__":
    unittest.main()
