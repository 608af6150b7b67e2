"""Nothing that is handed in is changed, and each answer is that of what is handed in then: point [2]."""

import unittest
from copy import deepcopy

from evenblocks.errors import NoPlan
from evenblocks.evens import even_of, uneven_of
from evenblocks.plans import checked, how_often, met_by
from tests.samples import EIGHT, SEVEN, all_of_size, kinds_of


def checked_or_place(plan):
    try:
        return checked(plan)
    except NoPlan as refusal:
        return ("refused", refusal.place)


ASKED = {
    "checked": checked_or_place,
    "how_often of none": lambda plan: how_often(plan, ()),
    "how_often of one": lambda plan: how_often(plan, (1,)),
    "how_often of two": lambda plan: how_often(plan, (2, 0)),
    "met_by 0": lambda plan: met_by(plan, 0),
    "met_by 1": lambda plan: met_by(plan, 1),
    "met_by 2": lambda plan: met_by(plan, 2),
    "met_by 3": lambda plan: met_by(plan, 3),
    "even_of": even_of,
    "uneven_of": uneven_of,
}

PLANS = (
    SEVEN, (7, SEVEN[1][::-1]), EIGHT, all_of_size(4, 2), (3, []), (3, [(), (0, 1, 2), (0, 1, 2)]),
    (4, [(2, 3), (0, 1)]), (4, [(2, 3), (0, 1), (0, 1, 2)]), (4, [(0, 1, 2, 3), (3,), ()]),
)


class Unchanged(unittest.TestCase):
    def test_what_is_handed_in_stays(self):
        for name, ask in ASKED.items():
            for plan in PLANS:
                with self.subTest(name=name, plan=plan):
                    mine = deepcopy(plan)
                    blocks, parts = mine[1], list(mine[1])
                    ask(mine)
                    self.assertEqual(kinds_of(mine), kinds_of(plan))
                    self.assertIs(mine[1], blocks)
                    self.assertTrue(all(one is other for one, other in zip(mine[1], parts)))

    def test_a_refused_plan_stays(self):
        plan = (3, [(0, 1), (2, 1), (1, 1)])
        with self.assertRaises(NoPlan):
            checked(plan)
        self.assertEqual(plan, (3, [(0, 1), (2, 1), (1, 1)]))

    def test_asked_again_it_is_the_same(self):
        for name, ask in ASKED.items():
            told = [kinds_of(ask(plan)) for plan in PLANS]
            for _ in range(3):
                with self.subTest(name=name):
                    self.assertEqual([kinds_of(ask(plan)) for plan in PLANS], told)
                    self.assertEqual([kinds_of(ask(deepcopy(plan))) for plan in PLANS], told)

    def test_the_answer_is_of_what_is_handed_in_then(self):
        steps = (list(SEVEN[1]), SEVEN[1][:-1] + [(0, 1, 3)], SEVEN[1] + [(0, 2)], SEVEN[1][:3], [], SEVEN[1] * 2,
                 [()], [(0, 1, 2)], list(SEVEN[1]))
        for name, ask in ASKED.items():
            blocks = []
            plan = (7, blocks)
            for step in steps:
                blocks[:] = step
                with self.subTest(name=name, step=step):
                    self.assertEqual(kinds_of(ask(plan)), kinds_of(ask((7, list(step)))))
        blocks = list(SEVEN[1])
        plan = (7, blocks)
        self.assertEqual((even_of(plan), met_by(plan, 2), how_often(plan, (0, 1))), ((7, 7, 3, 3, 1), 1, 1))
        blocks[0] = (0, 1, 3)
        self.assertEqual((even_of(plan), met_by(plan, 2), how_often(plan, (2, 0))), (None, None, 0))
        self.assertEqual(uneven_of(plan), ("pairs", 0, 2, 0, 1))
        blocks[0] = (0, 2, 1)
        self.assertEqual(checked_or_place(plan), ("refused", 0))
        blocks[0] = (0, 1, 2)
        self.assertEqual((checked(plan), uneven_of(plan)), (True, None))

    def test_the_same_list_in_plans_of_more_things(self):
        blocks = [(0, 1), (0, 2), (1, 2)]
        self.assertEqual(even_of((3, blocks)), (3, 3, 2, 2, 1))
        self.assertEqual(uneven_of((4, blocks)), ("pairs", 0, 3, 0, 1))
        self.assertEqual([met_by((many, blocks), 1) for many in (3, 4)], [2, None])
        self.assertEqual([checked_or_place((many, blocks)) for many in (2, 3)], [("refused", 1), True])


if __name__ == "__main__":
    unittest.main()
