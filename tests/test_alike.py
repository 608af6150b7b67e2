"""Whether plans are alike, and the papers that show that they aren't: points [20] and [21]."""

import random
import unittest
from itertools import combinations, combinations_with_replacement, permutations, product

from evenblocks.alike import alike, shows_unlike
from evenblocks.planes import closed, flat
from evenblocks.rests import rolled
from evenblocks.triples import triples
from evenblocks.turning import beside, moved, others
from tests.plain_papers import changed_papers, knots_in, leads, least_form, plain_shows_unlike
from tests.samples import EIGHT, SEVEN, all_of_size, kinds_of, subsets

WHOLE = tuple(range(9))
# One block of one thing, and one of both.
FEW, BOTH = (2, [(0,)]), (2, [(0, 1)])
# A ring of six things, and two rings of three.
RING = (6, [(0, 1), (1, 2), (2, 3), (3, 4), (4, 5), (0, 5)])
RINGS = (6, [(0, 1), (1, 2), (0, 2), (3, 4), (4, 5), (3, 5)])
NO_PAPERS = (0, 1, -1, 10 ** 60, "", "thing", "parts", "unlike", None, True, False, (), [], {}, b"parts", ((),), ([],),
             [()], (None,), (None, None), (None, None, None), ("thing",), ("parts",), ["parts", ()], {"parts": ()},
             ("parts", ()), ("parts", []), ("parts", (0,)), ("parts", "()"), ("parts", None), ("parts", (), ()),
             ("thing", 0), ("thing", 0, None), ("thing", 0, []), ("thing", 0, ()), ("thing", "0", []),
             (("parts", ()),), [("parts", ())], ("unlike", ("parts", ())), 1.5, 2j, object(), (1, 2, 3, 4))


def nested(deep):
    """A list or tuple that is nested so deep."""
    inner = ()
    for step in range(deep):
        inner = ("thing", step, [inner]) if step % 2 else [inner]
    return inner


class ShowsUnlike(unittest.TestCase):
    def told(self, one, other, paper, answer):
        for _ in range(2):
            self.assertIs(shows_unlike(one, other, paper), answer, (one, other, paper))
        self.assertIs(plain_shows_unlike(one, other, paper), answer)

    def test_unlike_numbers_of_things(self):
        for one, other in (((1, []), (2, [])), ((3, [(0,)]), (2, [(0,)])), (SEVEN, EIGHT), ((8, []), (9, []))):
            for paper in NO_PAPERS + (nested(30), ("thing", 0, [("parts", ())])):
                self.assertIs(shows_unlike(one, other, paper), True)
                self.assertIs(shows_unlike(other, one, paper), True)

    def test_numbers_of_blocks(self):
        self.told((1, []), (1, [()]), ("parts", ()), True)
        self.told((3, [(0,), (1,)]), (3, [(0,)]), ("parts", ()), True)
        self.told((3, [(0,), (1,)]), (3, [(0,), (0, 1, 2)]), ("parts", ()), False)

    def test_a_thing_and_parts(self):
        self.told(FEW, BOTH, ("thing", 1, [("parts", (0,)), ("parts", (0,))]), True)
        self.told(FEW, BOTH, ("thing", 1, [("parts", ()), ("parts", (0,))]), True)
        self.told(FEW, BOTH, ("thing", 0, [("parts", (0,)), ("parts", (0,))]), False)
        self.told(BOTH, FEW, ("thing", 0, [("parts", (0,)), ("parts", (0,))]), False)
        # Thing 1 of the other plan is in no block, thing 0 is in one as thing 0 of the one plan is.
        inner = ("thing", 1, [("parts", (0,))])
        self.told(BOTH, FEW, ("thing", 0, [inner, ("parts", (0,))]), True)
        self.told(BOTH, FEW, ("thing", 0, [("parts", (0,)), inner]), False)
        self.told(BOTH, FEW, ("thing", 0, [inner, inner]), False)
        self.told(BOTH, FEW, ("thing", 0, [inner, ("thing", 1, [("parts", (1,))])]), True)
        self.told(BOTH, FEW, ("thing", 0, [("thing", 1, [("parts", (1,))]), ("parts", ())]), False)
        self.told(BOTH, FEW, ("thing", 0, [("thing", 1, [("parts", (0, 1))]), ("parts", ())]), True)
        self.told(BOTH, FEW, ("thing", 0, [("thing", 1, [("parts", ())]), ("parts", ())]), False)

    def test_blocks_with_just_the_things_at_picks(self):
        one, other = (3, [(0, 1), (0,)]), (3, [(0, 1), (0, 1, 2)])
        self.told(one, other, ("thing", 2, [("parts", (0,))] * 3), True)
        self.told(one, other, ("thing", 2, [("parts", ())] * 3), True)
        self.told(one, other, ("thing", 1, [("parts", (0,))] * 3), False)
        # Of the one plan thing 0 stands in both blocks, in one without thing 1; of the other plan no block has just one
        # of the things 0 and 1, one has these without thing 2.
        alone = ("thing", 1, [("parts", (0,)), ("parts", (0, 1))])
        self.told(one, other, ("thing", 0, [alone, alone, ("parts", (0,))]), False)
        alone = ("thing", 1, [("parts", (0,)), ("thing", 2, [("parts", (0,))])])
        self.told(one, other, ("thing", 0, [alone, alone, ("parts", (0,))]), True)
        for picks, answer in (((0, 2), True), ((0, 1, 2), True), ((0, 1), True), ((1, 2), False), ((), False)):
            alone = ("thing", 1, [("parts", (0,)), ("thing", 2, [("parts", picks)])])
            self.told(one, other, ("thing", 0, [alone, alone, ("parts", ())]), answer)

    def test_alike_plans_have_no_paper(self):
        papers = list(NO_PAPERS) + [("thing", 0, [("parts", (0,)), ("parts", ())])]
        for plan in ((1, []), (2, [(0,)]), (2, []), SEVEN, RING):
            for paper in papers:
                self.told(plan, plan, paper, False)

    def test_things_that_are_no_papers(self):
        for one, other in ((FEW, BOTH), (BOTH, FEW), (RING, RINGS), (SEVEN, (7, SEVEN[1][:-1] + [(0, 1, 3)]))):
            for paper in NO_PAPERS:
                self.told(one, other, paper, False)
            for deep in range(31):
                self.assertIs(shows_unlike(one, other, nested(deep)), False)

    def test_a_truth_is_no_number(self):
        self.told(FEW, BOTH, ("thing", True, [("parts", (0,)), ("parts", (0,))]), False)
        self.told(FEW, BOTH, ("thing", 1, [("parts", (False,)), ("parts", (0,))]), False)
        self.told(FEW, BOTH, ("thing", 1, [("parts", (0,)), ("parts", (False,))]), False)

    def test_wrong_in_one_place(self):
        right = ("thing", 1, [("parts", (0,)), ("parts", ())])
        for paper in (
                ("Thing", 1, right[2]), ("parts", 1, right[2]), ("thing", 1), ("thing", 1, right[2], 0),
                ["thing", 1, right[2]], ("thing", 1, tuple(right[2])), ("thing", 0, right[2]), ("thing", 2, right[2]),
                ("thing", -1, right[2]), ("thing", -2, right[2]), ("thing", 10 ** 60, right[2]),
                ("thing", 1, right[2][:1]), ("thing", 1, right[2] + [("parts", ())]), ("thing", 1, []),
                ("thing", 1, [("parts", [0]), ("parts", ())]), ("thing", 1, [["parts", (0,)], ("parts", ())]),
                ("thing", 1, [("parts", (0, 0)), ("parts", ())]), ("thing", 1, [("parts", (1,)), ("parts", ())]),
                ("thing", 1, [("parts", (0, 1)), ("parts", ())]), ("thing", 1, [("parts", (-1,)), ("parts", ())]),
                ("thing", 1, [("parts", ("0",)), ("parts", ())]), ("thing", 1, [("parts", "0"), ("parts", ())]),
                ("thing", 1, [("parts", 0), ("parts", ())]), ("thing", 1, [("part", (0,)), ("parts", ())]),
                ("thing", 1, [("parts", (0,), ()), ("parts", ())]), ("thing", 1, [("parts",), ("parts", ())]),
                ("thing", 1, [("thing", 1, [("parts", (0,))]), ("parts", ())])):
            self.told(FEW, BOTH, right, True)
            self.told(FEW, BOTH, paper, False)

    def test_a_thing_that_is_in_a_pair_already(self):
        good = ("thing", 1, [("parts", (0, 1))])
        self.told(BOTH, FEW, ("thing", 0, [good, good]), True)
        self.told(BOTH, FEW, ("thing", 0, [("thing", 0, [("parts", (0, 1))]), good]), False)
        all_in_pairs = ("thing", 1, [("thing", 0, [])])
        self.told(BOTH, FEW, ("thing", 0, [good, all_in_pairs]), False)

    def test_knots_in_another_order(self):
        one, other = (3, [(0, 1), (2,)]), (3, [(0, 1), (0,)])
        answer = alike(one, other)
        self.assertEqual(answer[0], "unlike")
        self.told(one, other, answer[1], True)
        inner = ("thing", 0, [("parts", (1,)), ("parts", (0, 1))])
        for knots in permutations([inner, ("parts", ()), ("parts", (0,))]):
            paper = ("thing", 2, list(knots))
            self.told(one, other, paper, plain_shows_unlike(one, other, paper))

    def test_papers_changed_in_each_place(self):
        chance = random.Random(3)
        seen = {True: 0, False: 0}
        for one, other in ((FEW, BOTH), (BOTH, FEW), (RING, RINGS), ((4, [(0, 1), (2, 3)]), (4, [(0, 1), (1, 2)])),
                           ((4, [(0, 1, 2)]), (4, [(0, 1)])), ((5, [(0, 1), (2, 3)]), (5, [(0, 1, 2), (3,)]))):
            paper = alike(one, other)[1]
            self.told(one, other, paper, True)
            changed = list(changed_papers(paper))
            for paper in chance.sample(changed, min(len(changed), 1500)):
                answer = plain_shows_unlike(one, other, paper)
                seen[answer] += 1
                self.assertIs(shows_unlike(one, other, paper), answer, (one, other, paper))
        self.assertGreater(seen[False], 2000)

    def test_where_it_is_true_no_turning_leads(self):
        papers = [("parts", ()), ("thing", 0, [("parts", ())] * 3), ("thing", 0, [("parts", (0,))] * 3)]
        papers += [("thing", 1, [("parts", left), ("parts", right), ("thing", 0, [("parts", (0, 1)), ("parts", more)])])
                   for left, right, more in product([(), (0,)], [(), (0,)], [(), (0,), (1,), (0, 1)])]
        plans = [(3, list(blocks)) for few in range(3) for blocks in combinations_with_replacement(subsets(3), few)]
        shown = 0
        for one, other in product(plans, repeat=2):
            for paper in papers:
                if shows_unlike(one, other, paper):
                    shown += 1
                    self.assertNotEqual(least_form(one), least_form(other))
        self.assertGreater(shown, 1000)


class Alike(unittest.TestCase):
    def told(self, one, other, are_alike):
        """What is told of two plans, in both directions, is so, and shown by a turning or a paper."""
        for left, right in ((one, other), (other, one)):
            word, shown = self.shown(left, right)
            self.assertEqual(word, "alike" if are_alike else "unlike", (left, right))

    def shown(self, one, other):
        answer = alike(one, other)
        self.assertEqual((answer.__class__, len(answer)), (tuple, 2))
        if answer[0] == "alike":
            self.assertIs(answer[1].__class__, list)
            self.assertTrue(leads(one, other, answer[1]), (one, other, answer))
            self.assertEqual(moved(one, answer[1])[1], sorted(other[1]))
        else:
            self.assertEqual(answer[0], "unlike")
            self.assertIs(shows_unlike(one, other, answer[1]), True)
            self.assertTrue(plain_shows_unlike(one, other, answer[1]), (one, other, answer))
        return answer

    def test_by_hand(self):
        self.assertEqual(kinds_of(alike((1, []), (1, []))), kinds_of(("alike", [0])))
        self.assertEqual(kinds_of(alike((2, [(0,)]), (2, [(1,)]))), kinds_of(("alike", [1, 0])))
        self.assertEqual(kinds_of(alike((3, [(0,), (0, 1)]), (3, [(0, 2), (2,)]))), kinds_of(("alike", [2, 0, 1])))
        # To and fro the turnings are unlike.
        self.assertEqual(alike((3, [(0, 2), (2,)]), (3, [(0,), (0, 1)])), ("alike", [1, 2, 0]))

    def test_unlike_numbers_of_things(self):
        for one, other in combinations([(1, []), (2, []), (3, [(0,)]), (4, [(0,)]), SEVEN, EIGHT, (9, [()])], 2):
            self.told(one, other, False)

    def test_unlike_numbers_of_blocks(self):
        self.told((1, []), (1, [()]), False)
        self.told((3, [(0, 1)]), (3, [(0, 1), (0, 1)]), False)
        self.told(SEVEN, (7, SEVEN[1] + [(0, 1, 2)]), False)

    def test_without_blocks_and_with_empty_or_alike_ones(self):
        for many in range(1, 10):
            self.told((many, []), (many, []), True)
            self.told((many, [(), ()]), (many, [(), ()]), True)
            self.told((many, [(0,), (0,), ()]), (many, [(), (many - 1,), (many - 1,)]), True)
            self.told((many, [(0,), ()]), (many, [(0,), (0,)]), False)
            self.told((many, [tuple(range(many))] * 24), (many, [tuple(range(many))] * 24), True)
        self.told((4, [(0, 1), (0, 1), (2, 3)]), (4, [(0, 1), (2, 3), (2, 3)]), True)
        self.told((4, [(0, 1), (0, 1), (2, 3)]), (4, [(0, 2), (1, 2), (2, 3)]), False)
        self.told((4, [(0, 1), (0, 1), (1, 2)]), (4, [(0, 1), (1, 2), (2, 3)]), False)

    def test_moved_plans(self):
        chance = random.Random(1)
        samples = [SEVEN, EIGHT, RING, RINGS, flat(2), flat(3), closed(2), triples(9), others(SEVEN), all_of_size(5, 2),
                   (9, [(0, 1, 2)] * 24), (9, [(thing,) for thing in WHOLE] + [WHOLE, ()]), beside(flat(3), flat(3))]
        for number in range(60):
            many = chance.randrange(1, 10)
            blocks = [tuple(sorted(chance.sample(range(many), chance.randrange(many + 1))))
                      for _ in range(chance.randrange(25))]
            samples.append((many, blocks))
        for plan in samples:
            for _ in range(3):
                turned = moved(plan, chance.sample(range(plan[0]), plan[0]))
                chance.shuffle(turned[1])
                self.told(plan, turned, True)

    def test_as_many_things_blocks_and_sizes(self):
        self.told(RING, RINGS, False)
        self.told(SEVEN, closed(2), True)
        self.told((7, SEVEN[1] * 2), beside(SEVEN, moved(SEVEN, [1, 0, 2, 3, 4, 5, 6])), False)
        self.told(rolled(7, [(0, 1, 3)]), rolled(7, [(0, 2, 3)]), True)
        self.told(rolled(7, [(0, 1, 3)]), rolled(7, [(0, 1, 2)]), False)
        self.told(flat(3), triples(9), True)
        self.told((4, [(0, 1), (2, 3)]), (4, [(0, 1), (1, 2)]), False)
        # Both are rings of nine and of eight things with their second neighbours, which are alike or not by chance.
        for steps in combinations(range(1, 5), 2):
            for more in combinations(range(1, 5), 2):
                one = rolled(9, [(0, steps[0]), (0, steps[1])])
                other = rolled(9, [(0, more[0]), (0, more[1])])
                both_by_three = [3 in steps, 3 in more]
                self.told(one, other, both_by_three[0] == both_by_three[1])

    def test_all_small_plans(self):
        sets = [[(many, list(blocks)) for blocks in combinations_with_replacement(subsets(many), few)]
                for many, few in ((1, 3), (2, 3), (3, 1), (3, 2), (3, 3), (4, 1), (4, 2))]
        sets.append([(4, list(blocks)) for few in (3, 4) for blocks in combinations(all_of_size(4, 2)[1], few)])
        sets.append([(5, list(blocks)) for blocks in combinations(all_of_size(5, 2)[1], 3)])
        for plans in sets:
            forms = [least_form(plan) for plan in plans]
            for one, form in zip(plans, forms):
                for other, other_form in zip(plans, forms):
                    word, shown = alike(one, other)
                    self.assertEqual(word == "alike", form == other_form, (one, other))
                    if word == "alike":
                        self.assertTrue(leads(one, other, shown))
                    else:
                        self.assertTrue(shows_unlike(one, other, shown))

    def test_small_plans_by_plain_papers(self):
        chance = random.Random(2)
        for number in range(1500):
            many, few = chance.randrange(1, 6), chance.randrange(1, 5)
            one, other = [(many, [chance.choice(subsets(many)) for _ in range(few)]) for _ in range(2)]
            word, shown = self.shown(one, other)
            self.assertEqual(word == "alike", least_form(one) == least_form(other))

    def test_nine_things_and_twenty_four_blocks(self):
        """Even plans of blocks of three in which each two stand together in two: the same numbers, many unlike ones."""
        chance = random.Random(4)
        twice = beside(flat(3), flat(3))
        plans = [twice] + [beside(flat(3), moved(flat(3), chance.sample(range(9), 9))) for _ in range(6)]
        words = {alike_word for one, other in combinations(plans, 2) for alike_word in [self.shown(one, other)[0]]}
        self.assertEqual(words, {"alike", "unlike"})
        for plan in plans:
            self.told(plan, moved(plan, chance.sample(range(9), 9)), True)
            changed = (9, plan[1][:-1] + [(6, 7, 8) if plan[1][-1] != (6, 7, 8) else (5, 7, 8)])
            self.told(plan, changed, False)

    def test_long_papers(self):
        # No thing but the last one parts these two, so the paper must try all ways through the others.
        for blocks, changed in (([WHOLE] * 24, [WHOLE] * 23 + [WHOLE[:-1]]), ([WHOLE, ()], [WHOLE[:-1], (8,)])):
            one, other = (9, blocks), (9, changed)
            word, paper = alike(one, other)
            self.assertEqual(word, "unlike")
            self.assertIs(shows_unlike(one, other, paper), True)
            self.assertIs(shows_unlike(one, one, paper), False)
            self.assertLess(knots_in(paper), 400000)
            # The other way round one thing tells it at once.
            self.assertLess(knots_in(self.shown(other, one)[1]), 1000)

    def test_names_of_arguments(self):
        self.assertEqual(alike(other=(1, []), one=(1, [])), ("alike", [0]))
        self.assertIs(shows_unlike(paper=None, other=(1, []), one=(1, [])), False)


if __name__ == "__main__":
    unittest.main()
