"""Days: their faults, days of pairs, and days of a plan: points [22] to [24]."""

import random
import unittest
from collections import Counter
from itertools import combinations, combinations_with_replacement, product

from evenblocks.days import days_of, fault_of_days, pair_days
from evenblocks.errors import NoDays
from evenblocks.evens import even_of
from evenblocks.nets import net, net_days
from evenblocks.planes import flat, flat_days
from evenblocks.spaces import sheets, space
from evenblocks.squares import many_squares
from evenblocks.triples import triples
from evenblocks.turning import beside, moved, others
from tests.samples import EIGHT, SEVEN, all_of_size, kinds_of, refusal_of, subsets, whole_numbers


def plain_fault(plan, days):
    many, blocks = plan
    if Counter(block for day in days for block in day) != Counter(blocks):
        return ("blocks",)
    for number, day in enumerate(days):
        times = Counter(thing for block in day for thing in block)
        for thing in range(many):
            if times[thing] != 1:
                return ("twice" if times[thing] else "left", number, thing)
    return None


def can_be_dealt(plan):
    """Whether the blocks can be dealt out, by trying each set of blocks as the day that has the first block."""
    many, blocks = plan
    if not blocks:
        return True
    full = [block for block in blocks if block]
    if not full:
        return False

    def tried(left):
        if not left:
            return True
        for few in range(len(left)):
            for picks in combinations(range(1, len(left)), few):
                day = [left[0]] + [left[place] for place in picks]
                if sorted(thing for block in day for thing in block) == list(range(many)):
                    if tried([block for place, block in enumerate(left) if place != 0 and place not in picks]):
                        return True
        return False

    return tried(full)


class FaultOfDays(unittest.TestCase):
    def told(self, plan, days, answer):
        self.assertEqual(kinds_of(fault_of_days(plan, days)), kinds_of(answer), (plan, days))

    def test_days_of_a_plan(self):
        self.told((3, []), [], None)
        self.told((1, [(0,)]), [[(0,)]], None)
        self.told((1, [(0,), (0,)]), [[(0,)], [(0,)]], None)
        self.told((4, [(0, 1), (2, 3)]), [[(2, 3), (0, 1)]], None)
        self.told((4, [(2, 3), (0, 1)]), [[(2, 3), (0, 1)]], None)
        for order in (2, 3, 4, 5, 7):
            self.told(flat(order), flat_days(order), None)
            self.told(flat(order), flat_days(order)[::-1], None)
            self.told(net(order, many_squares(order)), net_days(order, many_squares(order)), None)

    def test_empty_blocks_stand_on_any_day(self):
        plan = (2, [(), (0, 1), (), (0,), (1,)])
        self.told(plan, [[(), (0, 1), ()], [(0,), (1,)]], None)
        self.told(plan, [[(), (0, 1)], [(0,), (), (1,)]], None)
        self.told(plan, [[(0, 1)], [(0,), (1,), (), ()]], None)
        self.told(plan, [[(0, 1)], [(0,), (1,), ()]], ("blocks",))
        self.told(plan, [[(0, 1)], [(0,), (1,)], [(), ()]], ("left", 2, 0))
        self.told(plan, [[(), ()], [(0, 1)], [(0,), (1,)]], ("left", 0, 0))

    def test_blocks(self):
        plan = (4, [(0, 1), (2, 3)])
        for days in ([], [[]], [[(0, 1)]], [[(0, 1), (2, 3)], [(0, 1), (2, 3)]], [[(0, 1), (2, 3), ()]],
                     [[(0, 2), (1, 3)]], [[(0, 1), (0, 1)]], [[(0, 1, 2, 3)]], [[(0, 1)], [(2,), (3,)]],
                     [[(0, 1), (2, 3)], [(0, 1)]]):
            self.told(plan, days, ("blocks",))
        self.told((4, [(0, 1), (0, 1), (2, 3)]), [[(0, 1), (2, 3)], [(0, 1), (2, 3)]], ("blocks",))
        self.told((4, [(0, 1), (0, 1), (2, 3), (2, 3)]), [[(0, 1), (2, 3)]], ("blocks",))
        self.told((3, []), [[()]], ("blocks",))
        self.told((3, [()]), [], ("blocks",))

    def test_blocks_are_told_ahead_of_all_else(self):
        self.told((4, [(0, 1), (2, 3)]), [[(0, 1)], [(0, 1)]], ("blocks",))
        self.told((4, [(0, 1), (2, 3)]), [[], [(0, 1), (2, 3), (1, 2)]], ("blocks",))

    def test_left(self):
        self.told((4, [(0, 1), (2, 3)]), [[(0, 1)], [(2, 3)]], ("left", 0, 2))
        self.told((4, [(0, 1), (2, 3)]), [[(2, 3)], [(0, 1)]], ("left", 0, 0))
        self.told((4, [(0, 1), (2, 3)]), [[(0, 1), (2, 3)], []], ("left", 1, 0))
        self.told((4, [(0, 1), (2, 3)]), [[], [(0, 1), (2, 3)]], ("left", 0, 0))
        self.told((3, []), [[]], ("left", 0, 0))
        self.told((3, []), [[], []], ("left", 0, 0))
        self.told((2, [(0,), (0, 1)]), [[(0, 1)], [(0,)]], ("left", 1, 1))
        self.told((3, [()]), [[()]], ("left", 0, 0))

    def test_twice(self):
        self.told((2, [(0, 1), (0, 1)]), [[(0, 1), (0, 1)]], ("twice", 0, 0))
        self.told((3, [(0, 1), (1, 2)]), [[(0, 1), (1, 2)]], ("twice", 0, 1))
        self.told((2, [(0, 1), (0,), (1,), (1,)]), [[(0, 1)], [(0,), (1,), (1,)]], ("twice", 1, 1))
        self.told((1, [(0,)] * 3), [[(0,), (0,), (0,)]], ("twice", 0, 0))

    def test_the_first_thing_of_the_first_day(self):
        self.told((3, [(1, 2), (2,)]), [[(1, 2), (2,)]], ("left", 0, 0))
        self.told((3, [(0, 1), (0,)]), [[(0, 1), (0,)]], ("twice", 0, 0))
        self.told((3, [(0,), (0, 1, 2), (2,), (2,)]), [[(0, 1, 2)], [(0,), (2,), (2,)]], ("left", 1, 1))
        self.told((2, [(1,), (1,), (0, 1), (0,), (0,)]), [[(0, 1)], [(0,), (0,)], [(1,), (1,)]], ("twice", 1, 0))
        self.told((2, [(1,), (1,), (0, 1), (0,), (0,)]), [[(0, 1)], [(1,), (1,)], [(0,), (0,)]], ("left", 1, 0))

    def test_many_small_ones(self):
        seen = Counter()
        for few in range(4):
            for blocks in combinations_with_replacement(subsets(3), few):
                for homes in product(range(3), repeat=few):
                    for number in range(max(homes, default=-1) + 1, 4):
                        days = [[block for block, home in zip(blocks, homes) if home == day] for day in range(number)]
                        fault = plain_fault((3, list(blocks)), days)
                        self.told((3, list(blocks)), days, fault)
                        self.told((3, list(blocks) + [()]), days, ("blocks",))
                        seen[fault and fault[0]] += 1
        self.assertGreater(min(seen.values()), 10)
        self.assertEqual(len(seen), 3)


class PairDays(unittest.TestCase):
    def test_by_hand(self):
        self.assertEqual(kinds_of(pair_days(2)), kinds_of([[(0, 1)]]))
        self.assertEqual(sorted(pair_days(3)), [[(0, 1)], [(0, 2)], [(1, 2)]])
        self.assertEqual(sorted(pair_days(4)), [[(0, 1), (2, 3)], [(0, 2), (1, 3)], [(0, 3), (1, 2)]])

    def test_each_two_meet_on_one_day(self):
        for many in range(2, 61):
            days = pair_days(many)
            pairs = [pair for day in days for pair in day]
            self.assertEqual(sorted(pairs), list(combinations(range(many), 2)), many)
            for day in days:
                self.assertEqual(kinds_of(day), kinds_of(sorted(day)))
                self.assertEqual({pair.__class__ for pair in day}, {tuple})

    def test_who_is_in_a_pair(self):
        for many in range(2, 61):
            days = pair_days(many)
            self.assertEqual(len(days), many - 1 if many % 2 == 0 else many)
            there = [[thing for pair in day for thing in pair] for day in days]
            for day in there:
                self.assertEqual(len(day), len(set(day)))
            left = [thing for day in there for thing in range(many) if thing not in day]
            self.assertEqual(sorted(left), [] if many % 2 == 0 else list(range(many)))
            self.assertEqual({len(day) for day in there}, {many - many % 2})

    def test_they_are_days_of_all_pairs(self):
        for many in range(2, 61, 2):
            self.assertIs(fault_of_days(all_of_size(many, 2), pair_days(many)), None)

    def test_refused(self):
        for many in whole_numbers(-70, 200):
            self.assertIs(refusal_of(pair_days, many), None if 2 <= many <= 60 else NoDays, many)


class DaysOf(unittest.TestCase):
    def has_days(self, plan):
        """The plan has days, and days of it are told."""
        days = days_of(plan)
        self.assertIsNot(days, None, plan)
        self.assertIs(days.__class__, list)
        self.assertEqual({day.__class__ for day in days} | {list}, {list})
        self.assertIs(fault_of_days(plan, days), None)
        self.assertIs(plain_fault(plan, days), None)
        return days

    def test_by_hand(self):
        self.assertEqual(kinds_of(days_of((3, []))), kinds_of([]))
        self.assertEqual(kinds_of(days_of((1, [(0,)]))), kinds_of([[(0,)]]))
        self.assertEqual(kinds_of(days_of((1, [(0,), (0,)]))), kinds_of([[(0,)], [(0,)]]))
        self.assertIs(days_of((2, [(0,)])), None)
        self.assertIs(days_of((2, [(0,), (0,), (1,)])), None)
        self.assertIs(days_of((3, [(0, 1), (0, 2), (1, 2)])), None)
        self.assertEqual(len(self.has_days((4, all_of_size(4, 2)[1]))), 3)

    def test_empty_blocks(self):
        for number in range(1, 5):
            for many in (1, 2, 16):
                self.assertIs(days_of((many, [()] * number)), None)
                self.assertEqual(len(self.has_days((many, [()] * number + [tuple(range(many))] * 2))), 2)
                self.assertIs(days_of((many + 1, [()] * number + [(0,)])), None)
        self.has_days((3, [(0, 1), (), (2,), (), (0, 1, 2), ()]))

    def test_alike_blocks(self):
        self.assertEqual(len(self.has_days((4, [(0, 1)] * 3 + [(2, 3)] * 3))), 3)
        self.assertIs(days_of((4, [(0, 1)] * 3 + [(2, 3)] * 2)), None)
        self.assertEqual(len(self.has_days((2, [(0,)] * 8 + [(1,)] * 8))), 8)
        self.assertIs(days_of((3, [(0, 1)] * 2 + [(0, 2)] * 2 + [(1, 2)] * 2)), None)
        self.assertEqual(len(self.has_days((3, [(0, 1)] * 2 + [(2,)] * 3 + [(0,), (1,)]))), 3)

    def test_no_plan_of_which_a_thing_stands_in_fewer(self):
        self.assertIs(days_of((4, [(0, 1, 2), (3,), (0, 1), (2,)])), None)
        self.assertIs(days_of((16, [tuple(range(15))])), None)

    def test_the_first_way_may_be_a_dead_end(self):
        # The first block goes with either of two others, but only one of these leaves what can be dealt out.
        plan = (6, [(0, 1, 2), (3, 4, 5), (3, 4, 5), (0, 1), (2,)])
        self.assertEqual(len(self.has_days(plan)), 2)
        plan = (4, [(0,), (1, 2), (1, 3), (3,), (0, 2)])
        self.assertEqual(sorted(sorted(day) for day in self.has_days(plan)), [[(0,), (1, 2), (3,)], [(0, 2), (1, 3)]])

    def test_even_plans(self):
        for plan in (flat(2), flat(3), (7, [tuple(range(7))] * 3), all_of_size(4, 2), all_of_size(6, 2), EIGHT,
                     sheets(2, 3), triples(3), triples(9), moved(flat(3), [8, 0, 7, 1, 6, 2, 5, 3, 4])):
            many, blocks, each, size, meet = even_of(plan)
            days = self.has_days(plan)
            self.assertEqual(len(days), each)
            self.assertEqual({len(day) for day in days}, {many // size})
            if size < many:
                self.assertGreaterEqual(blocks, many + each - 1)

    def test_even_plans_without_days(self):
        for plan in (SEVEN, others(SEVEN), triples(7), triples(13), all_of_size(5, 2), all_of_size(4, 3), beside(
                SEVEN, SEVEN)):
            self.assertIsNot(even_of(plan), None)
            self.assertIs(days_of(plan), None)

    def test_two_factors_of_a_small_graph(self):
        """Ten things, each in three pairs, that can't be dealt out to three days."""
        pairs = [tuple(sorted(pair)) for i in range(5)
                 for pair in ((i, (i + 1) % 5), (i, i + 5), (i + 5, (i + 2) % 5 + 5))]
        plan = (10, sorted(pairs))
        self.assertEqual(Counter(thing for pair in pairs for thing in pair), Counter(list(range(10)) * 3))
        self.assertIs(days_of(plan), None)
        # Of a prism there are such days.
        prism = [tuple(sorted(pair)) for i in range(5)
                 for pair in ((i, (i + 1) % 5), (i, i + 5), (i + 5, (i + 1) % 5 + 5))]
        self.assertEqual(len(self.has_days((10, sorted(prism)))), 3)

    def test_small_plans_one_by_one(self):
        seen = Counter()
        sets = [(1, 4), (2, 5), (3, 4)]
        for many, most in sets:
            for few in range(most + 1):
                for blocks in combinations_with_replacement(subsets(many), few):
                    self.tried((many, list(blocks)), seen)
        for few in range(7):
            for blocks in combinations_with_replacement([block for block in subsets(3) if block], few):
                self.tried((3, list(blocks)), seen)
        self.assertGreater(min(seen.values()), 100)

    def tried(self, plan, seen):
        days = days_of(plan)
        self.assertEqual(days is not None, can_be_dealt(plan), plan)
        if days is not None:
            self.assertIs(plain_fault(plan, days), None)
        seen[days is None] += 1

    def test_plans_by_chance(self):
        chance, seen = random.Random(9), Counter()
        for number in range(3000):
            many = chance.choice([4, 5, 6])
            blocks = self.dealt_by_chance(chance, many, chance.randrange(1, 4), 3)
            for _ in range(chance.randrange(4)):
                self.exchange(chance, blocks)
            self.tried((many, [tuple(sorted(block)) for block in blocks]), seen)
        self.assertGreater(min(seen.values()), 100)

    def dealt_by_chance(self, chance, many, number, parts):
        """The blocks, lists, of so many days."""
        blocks = []
        for _ in range(number):
            day = [[] for _ in range(parts)]
            for thing in range(many):
                chance.choice(day).append(thing)
            blocks += [block for block in day if block]
        chance.shuffle(blocks)
        return blocks

    def exchange(self, chance, blocks):
        """Exchanges two things of two blocks, so that each stands in as many blocks as before."""
        one, other = chance.choice(blocks), chance.choice(blocks)
        here = [thing for thing in one if thing not in other]
        there = [thing for thing in other if thing not in one]
        if here and there:
            mine, yours = chance.choice(here), chance.choice(there)
            one[one.index(mine)], other[other.index(yours)] = yours, mine

    def test_sixteen_things_and_sixteen_blocks(self):
        chance = random.Random(10)
        for number in range(300):
            blocks = self.dealt_by_chance(chance, 16, 4, 4)
            while len(blocks) < 16:
                blocks.append([])
            self.has_days((16, [tuple(sorted(block)) for block in blocks]))
            for _ in range(2):
                self.exchange(chance, blocks)
            plan = (16, [tuple(sorted(block)) for block in blocks])
            days = days_of(plan)
            if days is not None:
                self.assertIs(plain_fault(plan, days), None)
        self.has_days((16, [(2 * thing, 2 * thing + 1) for thing in range(8)] * 2))
        self.has_days((16, [(thing,) for thing in range(16)]))
        self.has_days((16, [tuple(range(16))] * 16))
        ring = [tuple(sorted((thing, (thing + 1) % 16))) for thing in range(16)]
        self.assertEqual(len(self.has_days((16, ring))), 2)
        odd = [tuple(sorted((thing, (thing + 1) % 9))) for thing in range(9)]
        rest = [tuple(sorted((9 + thing, 9 + (thing + 1) % 7))) for thing in range(7)]
        self.assertIs(days_of((16, odd + rest)), None)
        halves = space(2, 4)[1][:8]
        self.assertIs(days_of((16, halves + halves)), None)

    def test_names_of_arguments(self):
        self.assertEqual(days_of(plan=(1, [])), [])
        self.assertEqual(pair_days(many=2), [[(0, 1)]])
        self.assertIs(fault_of_days(days=[], plan=(1, [])), None)


if __name__ == "__main__":
    unittest.main()
