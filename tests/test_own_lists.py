"""Whatever is asked: what is handed in stays, what is told is new and the asker's own: point [2]."""

import unittest
from copy import deepcopy

from evenblocks.alike import alike, shows_unlike
from evenblocks.days import days_of, fault_of_days, pair_days
from evenblocks.errors import (NoBlock, NoDays, NoNet, NoPlan, NoSize, NoSquare, NoText, NoTriples, NoTurning, Unlike)
from evenblocks.nets import net, net_days, squares_by
from evenblocks.planes import flat, flat_days
from evenblocks.plans import checked
from evenblocks.squares import checked_square, crossed, field_squares, many_squares, same_pair
from evenblocks.texts import read_plan, read_square, show_plan, show_square
from evenblocks.triples import triples
from evenblocks.turning import beside, moved, others, swapped, within, without
from tests.plain_squares import rows_turned
from tests.samples import EIGHT, SEVEN, kinds_of, lists_in, refusal_of, spoiled

MIXED = (4, [(2, 3), (0, 1), (0, 1), (), (0, 1, 2, 3), (3,)])
TWO = [[0, 1], [1, 0]]
FOURS = field_squares(4)
# A ring of four things, and a ring of three with one left over.
RING, RINGS = (4, [(0, 1), (1, 2), (2, 3), (0, 3)]), (4, [(0, 1), (1, 2), (0, 2), (0, 3)])

# Each function with what is handed in, of lists that may be changed.
CASES = [
    (triples, 3), (triples, 7), (triples, 9), (triples, 25),
    (checked_square, TWO), (checked_square, rows_turned(5)),
    (same_pair, TWO, TWO), (same_pair, rows_turned(5, 2), rows_turned(5, 3)), (same_pair, FOURS[0], FOURS[0]),
    (field_squares, 2), (field_squares, 4), (field_squares, 9), (field_squares, 32),
    (crossed, TWO, TWO), (crossed, rows_turned(3), [[0]]), (crossed, [[0]], rows_turned(3)), (crossed, [[0]], [[0]]),
    (many_squares, 2), (many_squares, 4), (many_squares, 12), (many_squares, 30),
    (net_days, 2, []), (net_days, 2, [TWO]), (net_days, 4, FOURS), (net_days, 6, [rows_turned(6)]),
    (net, 2, []), (net, 2, [TWO]), (net, 4, FOURS),
    (squares_by, 2, net_days(2, [])), (squares_by, 2, net_days(2, [TWO])), (squares_by, 4, net_days(4, FOURS)),
    (moved, SEVEN, [6, 5, 4, 3, 2, 1, 0]), (moved, MIXED, [0, 1, 2, 3]), (moved, MIXED, [1, 2, 3, 0]),
    (moved, (1, []), [0]),
    (others, SEVEN), (others, MIXED), (others, (3, [])),
    (beside, SEVEN, SEVEN), (beside, MIXED, (4, [])), (beside, (4, []), MIXED), (beside, (4, []), (4, [])),
    (swapped, SEVEN), (swapped, MIXED), (swapped, (2, [(0, 1)])),
    (within, SEVEN, 0), (within, MIXED, 4), (within, MIXED, 0), (within, (1, [(0,)]), 0),
    (without, EIGHT, 3), (without, MIXED, 3), (without, MIXED, 0),
    (alike, SEVEN, SEVEN), (alike, MIXED, moved(MIXED, [3, 1, 0, 2])), (alike, RING, RINGS), (alike, RINGS, RING),
    (alike, (3, []), (3, [])), (alike, SEVEN, EIGHT), (alike, flat(3), flat(3)), (alike, MIXED, (4, MIXED[1][:-1])),
    (shows_unlike, RING, RINGS, alike(RING, RINGS)[1]), (shows_unlike, RING, RING, alike(RING, RINGS)[1]),
    (shows_unlike, RING, RINGS, ["thing", 0, [[], [[]]]]), (shows_unlike, SEVEN, EIGHT, [[]]),
    (fault_of_days, flat(3), flat_days(3)), (fault_of_days, flat(2), flat_days(2)[:2]), (fault_of_days, (3, []), []),
    (fault_of_days, (3, []), [[]]), (fault_of_days, (2, [(0, 1), (0, 1)]), [[(0, 1), (0, 1)]]),
    (pair_days, 2), (pair_days, 7), (pair_days, 60),
    (days_of, flat(3)), (days_of, SEVEN), (days_of, (3, [])), (days_of, (3, [()])), (days_of, EIGHT),
    (days_of, (2, [(), (0, 1), (0,), (), (1,)])), (days_of, (1, [(0,)] * 3)),
    (show_plan, SEVEN), (show_plan, MIXED), (show_plan, (3, [])), (show_square, TWO), (show_square, FOURS[2]),
    (read_plan, "things 3"), (read_plan, "things 3\n1 2\n-\n0\n1 2"), (read_square, "0"), (read_square, "1 0\n0 1"),
]

# Each function with what it refuses.
REFUSED = [
    (NoTriples, triples, 5), (NoSquare, checked_square, [[0, 1], [0, 1]]), (NoSquare, checked_square, []),
    (Unlike, same_pair, TWO, [[0]]), (NoSize, many_squares, 31), (NoSize, net, 15, [TWO]), (NoSize, net_days, 1, []),
    (Unlike, net, 2, [TWO, TWO]), (Unlike, net_days, 3, [TWO]), (NoSize, squares_by, 1, [[(0,)], [(0,)]]),
    (NoNet, squares_by, 2, [[(0, 1), (3, 2)], [(0, 2), (1, 3)]]), (NoTurning, moved, MIXED, [3, 2, 1, 1]),
    (Unlike, beside, SEVEN, EIGHT), (NoBlock, swapped, (3, [])), (NoBlock, within, MIXED, 3),
    (NoBlock, without, MIXED, 4), (NoBlock, within, MIXED, -1), (NoDays, pair_days, 61), (NoText, read_plan, ""),
    (NoPlan, read_plan, "things 1\n1"), (NoText, read_square, "-"), (NoSquare, read_square, "1"),
]


class OwnLists(unittest.TestCase):
    def each(self, look):
        """Calls look with each function, its own copy of what is handed in, and what that was."""
        for ask, *handed in CASES:
            with self.subTest(ask=ask.__name__, handed=handed):
                look(ask, [deepcopy(part) for part in handed], handed)

    def test_what_is_handed_in_stays(self):
        def look(ask, mine, handed):
            lists = lists_in(mine)
            ask(*mine)
            self.assertEqual(kinds_of(mine), kinds_of(handed))
            self.assertTrue(all(one is other for one, other in zip(lists_in(mine), lists, strict=True)))

        self.each(look)

    def test_what_is_refused_stays(self):
        for due, ask, *handed in REFUSED:
            with self.subTest(ask=ask.__name__, handed=handed):
                mine = deepcopy(handed)
                self.assertIs(refusal_of(ask, *mine), due)
                self.assertEqual(kinds_of(mine), kinds_of(handed))
                self.assertIs(refusal_of(ask, *mine), due)

    def test_asked_again_it_is_the_same(self):
        def look(ask, mine, handed):
            told = kinds_of(ask(*mine))
            self.assertEqual(kinds_of(ask(*mine)), told)
            self.assertEqual(kinds_of(ask(*handed)), told)

        self.each(look)

    def test_no_two_lists_are_one_and_the_same(self):
        def look(ask, mine, handed):
            first, second = ask(*mine), ask(*mine)
            found = lists_in(first) + lists_in(second) + lists_in(tuple(mine))
            self.assertEqual(len({id(part) for part in found}), len(found))

        self.each(look)

    def test_nor_where_the_same_list_is_handed_in_twice(self):
        self.assertEqual(len({id(part) for part in lists_in(crossed(TWO, TWO))}), 5)
        row = [0]
        self.assertEqual(crossed([row], [row]), [[0]])
        self.assertIsNot(crossed([row], [row])[0], row)
        day = net_days(2, [TWO])
        self.assertEqual(len({id(part) for part in lists_in(day)}), 4)

    def test_a_told_list_that_is_changed_changes_nothing(self):
        def look(ask, mine, handed):
            told = ask(*mine)
            due = kinds_of(told)
            later = ask(*mine)
            spoiled(told)
            self.assertEqual(kinds_of(mine), kinds_of(handed))
            self.assertEqual(kinds_of(later), due)
            self.assertEqual(kinds_of(ask(*mine)), due)

        self.each(look)

    def test_changing_what_was_handed_in_changes_nothing_told(self):
        def look(ask, mine, handed):
            told = ask(*mine)
            due = kinds_of(told)
            spoiled(tuple(mine))
            self.assertEqual(kinds_of(told), due)
            self.assertEqual(kinds_of(ask(*handed)), due)

        self.each(look)

    def test_what_was_told_may_be_handed_in_again(self):
        plan = triples(99)
        turned = moved(plan, list(range(99))[::-1])
        self.assertIs(checked(turned), True)
        self.assertEqual(swapped(swapped(beside(plan, turned))), beside(plan, turned))
        self.assertEqual(len(within(others(turned), 1616)[1]), 1616)
        largest = field_squares(32)
        self.assertIs(same_pair(largest[0], largest[30]), None)
        self.assertIs(checked_square(crossed(many_squares(8)[0], many_squares(8)[6])), True)
        self.assertEqual(read_plan(show_plan(turned)), turned)
        self.assertEqual(read_square(show_square(largest[7])), largest[7])
        self.assertEqual(shows_unlike(RING, RINGS, alike(RING, RINGS)[1]), True)
        self.assertIs(fault_of_days(flat(13), flat_days(13)), None)
        self.assertEqual(moved(MIXED, alike(MIXED, others(others(MIXED)))[1]), others(others(MIXED)))
        pairs = (60, [pair for day in pair_days(60) for pair in day])
        self.assertIs(fault_of_days(pairs, pair_days(60)), None)
        days = net_days(13, many_squares(13))
        self.assertEqual(net_days(13, squares_by(13, days)), days)


if __name__ == "__main__":
    unittest.main()
