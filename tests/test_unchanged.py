"""What is handed in stays, told lists are the asker's own, answers are those of what is handed in then: point [2]."""

import unittest
from copy import deepcopy

from evenblocks.errors import ByNought, NoField, NoPlan
from evenblocks.evens import even_of, uneven_of
from evenblocks.fields import field_of
from evenblocks.planes import closed, flat, flat_days
from evenblocks.plans import checked, how_often, met_by
from evenblocks.rests import first_base, rests_between, rolled, square_bases
from evenblocks.spaces import sheets, space
from tests.samples import EIGHT, SEVEN, all_of_size, kinds_of, lists_in, refusal_of, spoiled


def checked_or_place(plan):
    try:
        return checked(plan)
    except NoPlan as refusal:
        return ("refused", refusal.place)


ASKED = {
    "checked": checked_or_place,
    "how_often of none": lambda plan: how_often(plan, ()),
    "how_often of one": lambda plan: how_often(plan, (1,)),
    "how_often of two": lambda plan: how_often(plan, (2, 0)),
    "met_by 0": lambda plan: met_by(plan, 0),
    "met_by 1": lambda plan: met_by(plan, 1),
    "met_by 2": lambda plan: met_by(plan, 2),
    "met_by 3": lambda plan: met_by(plan, 3),
    "even_of": even_of,
    "uneven_of": uneven_of,
}

PLANS = (
    SEVEN, (7, SEVEN[1][::-1]), EIGHT, all_of_size(4, 2), (3, []), (3, [(), (0, 1, 2), (0, 1, 2)]),
    (4, [(2, 3), (0, 1)]), (4, [(2, 3), (0, 1), (0, 1, 2)]), (4, [(0, 1, 2, 3), (3,), ()]),
)

# What is asked by numbers alone.
MAKINGS = {
    "flat 2": lambda: flat(2),
    "flat 4": lambda: flat(4),
    "flat_days 3": lambda: flat_days(3),
    "flat_days 4": lambda: flat_days(4),
    "closed 2": lambda: closed(2),
    "closed 5": lambda: closed(5),
    "space 2 3": lambda: space(2, 3),
    "space 4 2": lambda: space(4, 2),
    "sheets 2 3": lambda: sheets(2, 3),
    "sheets 3 3": lambda: sheets(3, 3),
    "square_bases 7": lambda: square_bases(7),
    "square_bases 13": lambda: square_bases(13),
    "first_base 7 3": lambda: first_base(7, 3),
    "first_base 8 3": lambda: first_base(8, 3),
}

# What is asked of a list of bases of seven things.
OF_BASES = {"rests_between": lambda bases: rests_between(7, bases), "rolled": lambda bases: rolled(7, bases)}
BASES = ([(0, 1, 3)], [(0,)], [(6,), (0, 2), (0, 2)], [tuple(range(7))] * 3, [(2, 4, 5), (0, 1, 3)])


class Unchanged(unittest.TestCase):
    def test_what_is_handed_in_stays(self):
        for name, ask in ASKED.items():
            for plan in PLANS:
                with self.subTest(name=name, plan=plan):
                    mine = deepcopy(plan)
                    blocks, parts = mine[1], list(mine[1])
                    ask(mine)
                    self.assertEqual(kinds_of(mine), kinds_of(plan))
                    self.assertIs(mine[1], blocks)
                    self.assertTrue(all(one is other for one, other in zip(mine[1], parts)))

    def test_a_refused_plan_stays(self):
        plan = (3, [(0, 1), (2, 1), (1, 1)])
        with self.assertRaises(NoPlan):
            checked(plan)
        self.assertEqual(plan, (3, [(0, 1), (2, 1), (1, 1)]))

    def test_asked_again_it_is_the_same(self):
        for name, ask in ASKED.items():
            told = [kinds_of(ask(plan)) for plan in PLANS]
            for _ in range(3):
                with self.subTest(name=name):
                    self.assertEqual([kinds_of(ask(plan)) for plan in PLANS], told)
                    self.assertEqual([kinds_of(ask(deepcopy(plan))) for plan in PLANS], told)

    def test_the_answer_is_of_what_is_handed_in_then(self):
        steps = (list(SEVEN[1]), SEVEN[1][:-1] + [(0, 1, 3)], SEVEN[1] + [(0, 2)], SEVEN[1][:3], [], SEVEN[1] * 2,
                 [()], [(0, 1, 2)], list(SEVEN[1]))
        for name, ask in ASKED.items():
            blocks = []
            plan = (7, blocks)
            for step in steps:
                blocks[:] = step
                with self.subTest(name=name, step=step):
                    self.assertEqual(kinds_of(ask(plan)), kinds_of(ask((7, list(step)))))
        blocks = list(SEVEN[1])
        plan = (7, blocks)
        self.assertEqual((even_of(plan), met_by(plan, 2), how_often(plan, (0, 1))), ((7, 7, 3, 3, 1), 1, 1))
        blocks[0] = (0, 1, 3)
        self.assertEqual((even_of(plan), met_by(plan, 2), how_often(plan, (2, 0))), (None, None, 0))
        self.assertEqual(uneven_of(plan), ("pairs", 0, 2, 0, 1))
        blocks[0] = (0, 2, 1)
        self.assertEqual(checked_or_place(plan), ("refused", 0))
        blocks[0] = (0, 1, 2)
        self.assertEqual((checked(plan), uneven_of(plan)), (True, None))

    def test_the_same_list_in_plans_of_more_things(self):
        blocks = [(0, 1), (0, 2), (1, 2)]
        self.assertEqual(even_of((3, blocks)), (3, 3, 2, 2, 1))
        self.assertEqual(uneven_of((4, blocks)), ("pairs", 0, 3, 0, 1))
        self.assertEqual([met_by((many, blocks), 1) for many in (3, 4)], [2, None])
        self.assertEqual([checked_or_place((many, blocks)) for many in (2, 3)], [("refused", 1), True])


class OwnLists(unittest.TestCase):
    def test_a_told_list_that_is_changed_changes_nothing_told_later(self):
        for name, ask in MAKINGS.items():
            with self.subTest(name):
                first, second = ask(), ask()
                due = kinds_of(first)
                self.assertEqual(kinds_of(second), due)
                spoiled(first)
                self.assertEqual(kinds_of(second), due)
                self.assertEqual(kinds_of(ask()), due)

    def test_no_two_lists_are_one_and_the_same(self):
        for name, ask in MAKINGS.items():
            with self.subTest(name):
                found = lists_in(ask()) + lists_in(ask())
                told = lists_in(ask())
                self.assertEqual(len({id(part) for part in found}), len(found))
                self.assertEqual(len(found), 2 * len(told))

    def test_one_function_spoils_nothing_for_another_one(self):
        due = {name: kinds_of(ask()) for name, ask in MAKINGS.items()}
        for ask in MAKINGS.values():
            spoiled(ask())
        self.assertEqual({name: kinds_of(ask()) for name, ask in MAKINGS.items()}, due)

    def test_what_was_told_may_be_handed_in(self):
        for plan in (flat(13), closed(13), space(2, 6), sheets(2, 6), rolled(199, square_bases(199))):
            due = deepcopy(plan)
            self.assertIs(checked(plan), True)
            self.assertIsNot(even_of(plan), None)
            self.assertEqual(plan, due)

    def test_a_field_that_is_changed_changes_no_later_one(self):
        field = field_of(9)
        field.order, field.prime, field.deep, field.rule = 2, 2, 1, (0, 1)
        later = field_of(9)
        self.assertEqual((later.order, later.prime, later.deep, later.rule), (9, 3, 2, (1, 0, 1)))
        self.assertEqual((later.times(3, 3), later.plus(8, 8)), (2, 4))
        self.assertEqual(flat(9)[0], 81)

    def test_two_fields_do_not_disturb_one_another(self):
        four, nine = field_of(4), field_of(9)
        self.assertEqual((four.times(2, 3), nine.times(2, 3), four.plus(2, 3), nine.plus(2, 3)), (1, 6, 1, 5))
        self.assertEqual((four.over(1, 3), nine.over(1, 3), four.minus(0, 3), nine.minus(0, 3)), (2, 6, 3, 6))

    def test_a_refusal_leaves_nothing_behind(self):
        field = field_of(4)
        self.assertIs(refusal_of(field.over, 1, 0), ByNought)
        self.assertIs(refusal_of(field_of, 6), NoField)
        self.assertEqual((field.over(1, 2), field.order, field.rule), (3, 4, (1, 1, 1)))


class OfBases(unittest.TestCase):
    def each(self):
        """Each function with each list of bases, as a copy to be spoiled and as it is."""
        for name, ask in OF_BASES.items():
            for bases in BASES:
                with self.subTest(name=name, bases=bases):
                    yield ask, deepcopy(bases), bases

    def test_what_is_handed_in_stays(self):
        for ask, mine, bases in self.each():
            ask(mine)
            self.assertEqual(kinds_of(mine), kinds_of(bases))

    def test_changing_what_was_handed_in_changes_nothing_told(self):
        for ask, mine, bases in self.each():
            told = ask(mine)
            due = kinds_of(told)
            mine[0] = (5, 6)
            mine.append((0, 6))
            self.assertEqual(kinds_of(told), due)
            self.assertEqual(kinds_of(ask(bases)), due)
            self.assertNotEqual(kinds_of(ask(mine)), due)

    def test_a_told_list_that_is_changed_changes_nothing(self):
        for ask, mine, bases in self.each():
            told = ask(mine)
            due = kinds_of(told)
            spoiled(told)
            self.assertEqual(kinds_of(mine), kinds_of(bases))
            self.assertEqual(kinds_of(ask(mine)), due)


if __name__ == "__main__":
    unittest.main()
