"""Plans turned about: points [18] and [19]."""

import random
import unittest
from collections import Counter
from itertools import combinations, permutations, product

from evenblocks.errors import NoBlock, NoTurning, Unlike
from evenblocks.evens import even_of
from evenblocks.planes import closed, flat
from evenblocks.plans import checked
from evenblocks.rests import rolled, square_bases
from evenblocks.spaces import sheets, space
from evenblocks.triples import triples
from evenblocks.turning import beside, moved, others, swapped, within, without
from tests.samples import (EIGHT, HUGE, SEVEN, all_of_size, kinds_of, plain_how_often, plain_uneven, refusal_of,
                           tiny_plans)

# No block, an empty block, a block of all things, alike blocks, blocks that are not sorted.
SAMPLES = (
    (1, []), (1, [()]), (1, [(0,)]), (1, [(0,), (), (0,)]), (3, []), (3, [()]), (3, [(0, 1, 2)]),
    (3, [(0, 1, 2), (), (0, 1, 2), ()]), (4, [(2, 3), (0, 1), (0, 1), (), (0, 1, 2, 3), (3,)]),
    (5, [(3, 4), (0, 4), (1, 2, 3), (0, 4), (0, 2, 4)]), SEVEN, (7, SEVEN[1][::-1]), EIGHT, all_of_size(5, 3),
)

# Even plans with as many blocks as things.
AS_MANY = (
    SEVEN, closed(2), closed(3), closed(4), closed(5), rolled(7, [(0, 1, 2, 4)]), all_of_size(4, 3), all_of_size(6, 5),
    (2, [(0, 1)] * 2), (5, [tuple(range(5))] * 5), others(closed(3))) + tuple(
    rolled(prime, square_bases(prime)) for prime in (7, 11, 19, 23))

EVEN = AS_MANY + (
    EIGHT, flat(2), flat(3), flat(4), flat(5), triples(3), triples(7), triples(9), triples(13), triples(15), space(2, 3),
    space(3, 3), sheets(2, 3), sheets(3, 3), sheets(2, 4), all_of_size(6, 3), all_of_size(7, 2), (4, [(0, 1, 2, 3)] * 3),
    (7, SEVEN[1] * 2), rolled(13, square_bases(13)), (2, [(0, 1)]), (3, [(0, 1, 2)]))


def small_plans():
    return [plan for plan in tiny_plans() if len(plan[1]) <= 2] + list(SAMPLES)


def plain_moved(plan, turning):
    return plan[0], sorted(tuple(sorted(turning[thing] for thing in block)) for block in plan[1])


def plain_others(plan):
    return plan[0], sorted(tuple(sorted(set(range(plan[0])) - set(block))) for block in plan[1])


def plain_cut(plan, place, things):
    things = sorted(things)
    blocks = [tuple(things.index(thing) for thing in block if thing in things)
              for number, block in enumerate(plan[1]) if number != place]
    return len(things), sorted(blocks)


def turnings_of(many):
    """Some turnings of so many things, all of them where they are few."""
    if many <= 4:
        return [list(turning) for turning in permutations(range(many))]
    chance = random.Random(many)
    found = [list(range(many)), list(range(many))[::-1], list(range(1, many)) + [0]]
    return found + [chance.sample(range(many), many) for _ in range(5)]


class Moved(unittest.TestCase):
    def test_by_hand(self):
        plan = (4, [(2, 3), (0, 1), (), (0, 1), (0, 2, 3)])
        self.assertEqual(kinds_of(moved(plan, [3, 0, 2, 1])), kinds_of((4, [(), (0, 3), (0, 3), (1, 2), (1, 2, 3)])))
        self.assertEqual(kinds_of(moved(plan, [0, 1, 2, 3])), kinds_of((4, [(), (0, 1), (0, 1), (0, 2, 3), (2, 3)])))
        # Each thing i is turning[i], not the other way round.
        self.assertEqual(moved((3, [(0,)]), [1, 2, 0]), (3, [(1,)]))

    def test_as_the_point_says(self):
        for plan in small_plans():
            for turning in turnings_of(plan[0]):
                self.assertEqual(kinds_of(moved(plan, turning)), kinds_of(plain_moved(plan, turning)))

    def test_lists_that_are_no_turnings(self):
        for plan in SAMPLES:
            many = plan[0]
            good = list(range(many))
            wrong = [good[:-1], good[1:], good + [many], good + [0], [], good * 2, good + good[-1:], [many] * many,
                     [-1] + good[1:], good[:-1] + [many], good[:-1] + [-1], good[:-1] + [10 ** 60],
                     [-10 ** 60] + good[1:], [thing - many for thing in good], [thing + 1 for thing in good]]
            wrong += [[0] * many, good[:-1] + [0], good[1:] + [many - 1]] if many > 1 else [[1], [0, 0]]
            wrong += [good[:-1] + [number] for number in HUGE]
            for turning in wrong:
                self.assertIs(refusal_of(moved, plan, turning), NoTurning, (plan, turning))

    def test_every_list_of_three(self):
        for turning in product(range(-1, 5), repeat=3):
            due = None if sorted(turning) == [0, 1, 2] else NoTurning
            self.assertIs(refusal_of(moved, (3, [(0, 1)]), list(turning)), due, turning)


class Others(unittest.TestCase):
    def test_by_hand(self):
        plan = (4, [(2, 3), (0, 1), (), (0, 1), (0, 1, 2, 3)])
        self.assertEqual(kinds_of(others(plan)), kinds_of((4, [(), (0, 1), (0, 1, 2, 3), (2, 3), (2, 3)])))

    def test_as_the_point_says(self):
        for plan in small_plans():
            self.assertEqual(kinds_of(others(plan)), kinds_of(plain_others(plan)))
            self.assertEqual(others(others(plan)), (plan[0], sorted(plan[1])))


class Beside(unittest.TestCase):
    def test_by_hand(self):
        told = beside((3, [(1, 2), (0,), ()]), (3, [(0, 1), (), (0,)]))
        self.assertEqual(kinds_of(told), kinds_of((3, [(), (), (0,), (0,), (0, 1), (1, 2)])))
        self.assertEqual(kinds_of(beside((3, []), (3, []))), kinds_of((3, [])))

    def test_as_the_point_says(self):
        for one, other in product(SAMPLES, repeat=2):
            if one[0] == other[0]:
                due = (one[0], sorted(one[1] + other[1]))
                self.assertEqual(kinds_of(beside(one, other)), kinds_of(due))
            else:
                self.assertIs(refusal_of(beside, one, other), Unlike)

    def test_a_plan_beside_itself(self):
        self.assertEqual(beside(SEVEN, SEVEN), (7, sorted(SEVEN[1] * 2)))


class Swapped(unittest.TestCase):
    def test_by_hand(self):
        plan = (4, [(2, 3), (0, 3), (), (0, 3)])
        self.assertEqual(kinds_of(swapped(plan)), kinds_of((4, [(1, 3), (), (0,), (0, 1, 3)])))
        self.assertEqual(kinds_of(swapped((1, [()]))), kinds_of((1, [()])))
        self.assertEqual(kinds_of(swapped((2, [(), (), ()]))), kinds_of((3, [(), ()])))

    def test_as_the_point_says(self):
        for plan in small_plans():
            if plan[1]:
                many, blocks = swapped(plan)
                self.assertEqual((many, len(blocks)), (len(plan[1]), plan[0]))
                for thing, block in enumerate(blocks):
                    due = tuple(number for number, old in enumerate(plan[1]) if thing in old)
                    self.assertEqual(kinds_of(block), kinds_of(due))

    def test_twice_it_is_the_very_plan(self):
        for plan in small_plans():
            if plan[1]:
                self.assertIs(checked(swapped(plan)), True)
                self.assertEqual(kinds_of(swapped(swapped(plan))), kinds_of(plan))

    def test_a_plan_without_blocks(self):
        for many in (1, 2, 7, 200):
            self.assertIs(refusal_of(swapped, (many, [])), NoBlock)


class Cut(unittest.TestCase):
    def test_by_hand(self):
        plan = (5, [(3, 4), (0, 2, 4), (), (0, 1, 2, 3, 4), (0, 2, 4), (1, 2)])
        self.assertEqual(kinds_of(within(plan, 1)), kinds_of((3, [(), (0, 1, 2), (0, 1, 2), (1,), (2,)])))
        self.assertEqual(kinds_of(without(plan, 1)), kinds_of((2, [(), (), (0,), (0, 1), (1,)])))
        self.assertEqual(kinds_of(within(plan, 3)), kinds_of((5, sorted(plan[1][:3] + plan[1][4:]))))
        self.assertEqual(kinds_of(without(plan, 2)), kinds_of((5, sorted(plan[1][:2] + plan[1][3:]))))
        self.assertEqual(kinds_of(within((1, [(0,)]), 0)), kinds_of((1, [])))
        self.assertEqual(kinds_of(without((1, [()]), 0)), kinds_of((1, [])))

    def test_as_the_point_says(self):
        for plan in small_plans():
            for place, block in enumerate(plan[1]):
                inside, outside = set(block), set(range(plan[0])) - set(block)
                for ask, things in ((within, inside), (without, outside)):
                    if things:
                        self.assertEqual(kinds_of(ask(plan, place)), kinds_of(plain_cut(plan, place, things)))
                    else:
                        self.assertIs(refusal_of(ask, plan, place), NoBlock, (ask, plan, place))

    def test_no_such_block(self):
        for plan in SAMPLES:
            number = len(plan[1])
            wrong = [-1, -2, -number, -number - 1, number, number + 1, 10 ** 60, -10 ** 60]
            for place in wrong + list(HUGE) + [-far for far in HUGE]:
                if place != 0 or number == 0:
                    self.assertIs(refusal_of(within, plan, place), NoBlock, (plan, place))
                    self.assertIs(refusal_of(without, plan, place), NoBlock, (plan, place))

    def test_no_thing_is_left(self):
        plan = (3, [(0, 1, 2), (), (1,)])
        self.assertEqual([refusal_of(within, plan, place) for place in range(3)], [None, NoBlock, None])
        self.assertEqual([refusal_of(without, plan, place) for place in range(3)], [NoBlock, None, None])


class Numbers(unittest.TestCase):
    def even(self, plan, numbers):
        """The plan is even with these numbers, by even_of and by plain counts."""
        self.assertEqual(kinds_of(even_of(plan)), kinds_of(numbers))
        many, blocks, each, size, meet = numbers
        self.assertEqual((plan[0], len(plan[1])), (many, blocks))
        self.assertEqual({len(block) for block in plan[1]}, {size})
        self.assertEqual({plain_how_often(plan, (thing,)) for thing in range(many)}, {each})
        pairs = Counter(pair for block in plan[1] for pair in combinations(block, 2))
        self.assertEqual({pairs[pair] for pair in combinations(range(many), 2)}, {meet})

    def test_moved(self):
        for plan in EVEN:
            for turning in turnings_of(plan[0]):
                self.even(moved(plan, turning), even_of(plan))

    def test_others(self):
        found = 0
        for plan in EVEN:
            v, b, r, k, m = even_of(plan)
            if v - k >= 2:
                found += 1
                self.even(others(plan), (v, b, b - r, v - k, b - 2 * r + m))
            else:
                self.assertIsNot(plain_uneven(others(plan)), None)
        self.assertGreater(found, 20)

    def test_beside(self):
        found = 0
        for one, other in product(EVEN, repeat=2):
            v, b, r, k, m = even_of(one)
            w, c, s, l, n = even_of(other)
            if (v, k) == (w, l):
                found += 1
                self.even(beside(one, other), (v, b + c, r + s, k, m + n))
        self.assertGreater(found, 60)

    def test_swapped(self):
        for plan in AS_MANY:
            numbers = even_of(plan)
            self.assertEqual(numbers[0], numbers[1])
            self.even(swapped(plan), numbers)
            for one, other in combinations(plan[1], 2):
                self.assertEqual(len(set(one) & set(other)), numbers[4])

    def test_within(self):
        found = 0
        for plan in AS_MANY:
            v, b, r, k, m = even_of(plan)
            for place in range(b):
                if m >= 2:
                    found += 1
                    self.even(within(plan, place), (k, v - 1, k - 1, m, m - 1))
        self.assertGreater(found, 40)

    def test_without(self):
        found = 0
        for plan in AS_MANY:
            v, b, r, k, m = even_of(plan)
            for place in range(b):
                if k - m >= 2:
                    found += 1
                    self.even(without(plan, place), (v - k, v - 1, k, k - m, m))
        self.assertGreater(found, 40)


class Names(unittest.TestCase):
    def test_names_of_arguments(self):
        self.assertEqual(moved(turning=[1, 0], plan=(2, [(0,)])), (2, [(1,)]))
        self.assertEqual(others(plan=(2, [(0,)])), (2, [(1,)]))
        self.assertEqual(beside(other=(2, [(1,)]), one=(2, [(0,)])), (2, [(0,), (1,)]))
        self.assertEqual(swapped(plan=(2, [(0,)])), (1, [(0,), ()]))
        self.assertEqual(within(place=0, plan=(2, [(0,)])), (1, []))
        self.assertEqual(without(place=0, plan=(2, [(0,)])), (1, []))


if __name__ == "__main__":
    unittest.main()
