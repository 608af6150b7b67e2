"""Nets, their days, and the squares by which a net has its days: points [16] and [17]."""

import random
import unittest
from copy import deepcopy
from itertools import combinations, product

from evenblocks.errors import NoNet, NoSize, Unlike
from evenblocks.evens import even_of
from evenblocks.nets import net, net_days, squares_by
from evenblocks.planes import flat, flat_days
from evenblocks.plans import checked
from evenblocks.squares import field_squares, many_squares
from tests.plain_squares import all_squares, laid_evenly, plain_field_squares, plain_many_squares, rows_turned
from tests.samples import kinds_of, plain_how_often, refusal_of, whole_numbers

TWO = [[0, 1], [1, 0]]


def sets_of_squares():
    """Sizes with squares each two of which are laid over evenly, some and none of them too."""
    for size in range(2, 15):
        squares = plain_many_squares(size)
        for few in sorted({0, 1, len(squares) // 2, len(squares)}):
            yield size, squares[:few]
    yield 5, plain_field_squares(5)[::-1]
    yield 4, [[row[::-1] for row in square] for square in plain_field_squares(4)]
    yield 6, [rows_turned(6, 5)]


def plain_days(size, squares):
    places = list(product(range(size), repeat=2))

    def blocks(told):
        return [tuple(i * size + j for i, j in places if told(i, j) == letter) for letter in range(size)]

    days = [blocks(lambda i, j: i), blocks(lambda i, j: j)]
    return days + [blocks(lambda i, j: square[i][j]) for square in squares]


class NetDays(unittest.TestCase):
    def test_by_hand(self):
        self.assertEqual(kinds_of(net_days(2, [])), kinds_of([[(0, 1), (2, 3)], [(0, 2), (1, 3)]]))
        self.assertEqual(kinds_of(net_days(2, [TWO])),
                         kinds_of([[(0, 1), (2, 3)], [(0, 2), (1, 3)], [(0, 3), (1, 2)]]))
        self.assertEqual(net_days(2, [TWO[::-1]])[2], [(1, 2), (0, 3)])
        self.assertEqual(net_days(3, [rows_turned(3)])[2], [(0, 5, 7), (1, 3, 8), (2, 4, 6)])

    def test_as_the_point_says(self):
        for size, squares in sets_of_squares():
            with self.subTest(size=size, squares=len(squares)):
                self.assertEqual(kinds_of(net_days(size, squares)), kinds_of(plain_days(size, squares)))

    def test_each_thing_stands_once_on_each_day(self):
        for size, squares in sets_of_squares():
            days = net_days(size, squares)
            self.assertEqual(len(days), len(squares) + 2)
            for day in days:
                self.assertEqual([len(block) for block in day], [size] * size)
                self.assertEqual(sorted(thing for block in day for thing in block), list(range(size * size)))

    def test_by_field_squares_the_days_are_those_of_the_flat_plane_in_another_order(self):
        for order in (2, 3, 4, 5, 7, 8, 9, 11, 13):
            days = [sorted(day) for day in net_days(order, field_squares(order))]
            self.assertEqual(sorted(days), sorted(sorted(day) for day in flat_days(order)))


class Net(unittest.TestCase):
    def test_by_hand(self):
        self.assertEqual(kinds_of(net(2, [])), kinds_of((4, [(0, 1), (0, 2), (1, 3), (2, 3)])))
        self.assertEqual(kinds_of(net(2, [TWO])), kinds_of((4, [(0, 1), (0, 2), (0, 3), (1, 2), (1, 3), (2, 3)])))

    def test_all_blocks_sorted(self):
        for size, squares in sets_of_squares():
            with self.subTest(size=size, squares=len(squares)):
                blocks = sorted(block for day in plain_days(size, squares) for block in day)
                plan = net(size, squares)
                self.assertEqual(kinds_of(plan), kinds_of((size * size, blocks)))
                self.assertIs(checked(plan), True)

    def test_each_two_things_in_one_block_at_most(self):
        for size, squares in sets_of_squares():
            plan = net(size, squares)
            pairs = [pair for block in plan[1] for pair in combinations(block, 2)]
            self.assertEqual(len(pairs), len(set(pairs)))
            if size <= 4:
                for one, other in combinations(range(size * size), 2):
                    self.assertLessEqual(plain_how_often(plan, (one, other)), 1)

    def test_even_with_all_squares(self):
        even = []
        for size, squares in sets_of_squares():
            due = (size * size, size * size + size, size + 1, size, 1) if len(squares) == size - 1 else None
            self.assertEqual(kinds_of(even_of(net(size, squares))), kinds_of(due), (size, len(squares)))
            even += [size] * (due is not None)
        self.assertEqual(sorted(set(even)), [2, 3, 4, 5, 7, 8, 9, 11, 13])

    def test_the_flat_plane(self):
        for order in (2, 3, 4, 5, 7, 8, 9, 11, 13):
            self.assertEqual(net(order, field_squares(order)), flat(order))


class Refused(unittest.TestCase):
    def refused(self, size, squares, due):
        for ask in (net_days, net):
            self.assertIs(refusal_of(ask, size, squares), due, (ask, size))

    def test_sizes(self):
        for size in whole_numbers(-30, 60):
            self.refused(size, [], None if 2 <= size <= 14 else NoSize)

    def test_no_size_is_told_ahead_of_unlike(self):
        for size in (1, 0, -1, -3, 15, 16, 30, 10 ** 60, -10 ** 60):
            self.refused(size, [TWO], NoSize)
            self.refused(size, [TWO, TWO], NoSize)
            self.refused(size, [TWO, rows_turned(3)], NoSize)
            self.refused(size, [rows_turned(15), rows_turned(15)], NoSize)
        self.refused(15, [rows_turned(15)], NoSize)
        self.refused(1, [[[0]]], NoSize)

    def test_a_square_of_another_size(self):
        for size, other in product(range(2, 15), range(1, 17)):
            self.refused(size, [rows_turned(other)], None if size == other else Unlike)
        self.refused(3, field_squares(3) + [TWO], Unlike)
        self.refused(3, [TWO] + field_squares(3), Unlike)
        self.refused(3, [[[0]], TWO], Unlike)
        self.refused(4, [rows_turned(16)], Unlike)

    def test_squares_that_are_not_laid_over_evenly(self):
        self.refused(3, [rows_turned(3), [[1, 2, 0], [2, 0, 1], [0, 1, 2]]], Unlike)
        self.refused(4, [rows_turned(4, 1), rows_turned(4, 3)], Unlike)
        squares = field_squares(5)
        for place in range(5):
            more = squares[:place] + [rows_turned(5, 3)[::-1]] + squares[place:]
            self.refused(5, more, Unlike)
        self.refused(6, [rows_turned(6, 1), rows_turned(6, 5)], Unlike)

    def test_the_same_one_twice(self):
        for size in range(2, 15):
            square = rows_turned(size)
            self.refused(size, [square], None)
            self.refused(size, [square, square], Unlike)
            self.refused(size, [square, deepcopy(square)], Unlike)
        squares = field_squares(7)
        for place in range(6):
            self.refused(7, squares + [squares[place]], Unlike)
            self.refused(7, [squares[place]] + squares, Unlike)

    def test_every_two_squares_of_three(self):
        for one, other in product(list(all_squares(3)), repeat=2):
            self.refused(3, [one, other], None if laid_evenly(one, other) else Unlike)


class SquaresBy(unittest.TestCase):
    def test_of_net_days_the_squares(self):
        for size, squares in sets_of_squares():
            with self.subTest(size=size, squares=len(squares)):
                self.assertEqual(kinds_of(squares_by(size, net_days(size, squares))), kinds_of(squares))

    def test_by_hand(self):
        self.assertEqual(kinds_of(squares_by(2, [[(0, 1), (2, 3)], [(0, 2), (1, 3)]])), kinds_of([]))
        days = [[(0, 3), (1, 2)], [(1, 3), (0, 2)], [(0, 1), (2, 3)]]
        self.assertEqual(kinds_of(squares_by(2, days)), kinds_of([[[1, 0], [0, 1]]]))
        self.assertEqual(squares_by(2, [days[1], days[0], days[2]]), [[[1, 0], [0, 1]]])
        self.assertEqual(squares_by(2, [days[1], days[0], days[2][::-1]]), [[[0, 1], [1, 0]]])
        # (3, 4, 5), of the first day, and (0, 5, 7), of the second one, have 5, which is in (1, 5, 6), then in (2, 5, 8).
        self.assertEqual(squares_by(3, flat_days(3)[::-1]),
                         [[[0, 1, 2], [1, 2, 0], [2, 0, 1]], [[0, 1, 2], [2, 0, 1], [1, 2, 0]]])

    def test_days_of_places_that_are_numbered_otherwise(self):
        chance = random.Random(7)
        for size in range(2, 15):
            squares = many_squares(size)
            numbers = list(range(size * size))
            chance.shuffle(numbers)
            days = [[tuple(sorted(numbers[thing] for thing in block)) for block in day]
                    for day in net_days(size, squares)]
            self.assertEqual(kinds_of(squares_by(size, days)), kinds_of(squares))

    def test_days_and_blocks_in_another_order(self):
        chance = random.Random(8)
        for size in (2, 3, 4, 5, 7, 8, 13):
            days = net_days(size, many_squares(size))
            for _ in range(5):
                chance.shuffle(days)
                for day in days:
                    chance.shuffle(day)
                told = squares_by(size, days)
                self.assertEqual(len(told), len(days) - 2)
                for square, day in zip(told, days[2:]):
                    for i, j in product(range(size), repeat=2):
                        [thing] = set(days[0][i]) & set(days[1][j])
                        self.assertEqual([number for number, block in enumerate(day) if thing in block],
                                         [square[i][j]])
                for one, other in combinations(told, 2):
                    self.assertTrue(laid_evenly(one, other))

    def test_sizes(self):
        for size in whole_numbers(-30, 60):
            days = plain_days(size, []) if 2 <= size <= 60 else [[(0, 1), (2, 3)], [(0, 2), (1, 3)]]
            self.assertIs(refusal_of(squares_by, size, days), None if 2 <= size <= 14 else NoSize, size)

    def test_no_size_is_told_ahead_of_no_net(self):
        for size in (1, 0, -1, 15, 10 ** 60, -10 ** 60):
            for days in ([[], []], [[(0,)], [(0,)]], [[(5, 1)], [(0, 0)]], [[()], [()], [()]]):
                self.assertIs(refusal_of(squares_by, size, days), NoSize)


class NoNets(unittest.TestCase):
    def refused(self, size, days):
        self.assertIs(refusal_of(squares_by, size, days), NoNet, (size, days))

    def with_changed_days(self, changes):
        """Nets' days, each of them changed by each change in turn, are refused."""
        for size, number in ((2, 0), (2, 1), (3, 0), (3, 2), (4, 1), (5, 4)):
            days = net_days(size, field_squares(size)[:number])
            self.assertIs(refusal_of(squares_by, size, days), None)
            for place in range(len(days)):
                for change in changes:
                    mine = deepcopy(days)
                    change(mine[place], size)
                    self.refused(size, mine)

    def test_a_block_less_or_more(self):
        self.with_changed_days([
            lambda day, size: day.pop(),
            lambda day, size: day.pop(0),
            lambda day, size: day.clear(),
            lambda day, size: day.append(()),
            lambda day, size: day.insert(0, ()),
            lambda day, size: day.append(day[0]),
            lambda day, size: day.append((size * size,)),
            lambda day, size: day.__setitem__(slice(0, 2), [tuple(sorted(day[0] + day[1]))]),
            lambda day, size: day.__setitem__(slice(0, 1), [day[0][:1], day[0][1:]]),
        ])

    def test_a_block_that_is_not_rising(self):
        self.with_changed_days([
            lambda day, size: day.__setitem__(0, day[0][::-1]),
            lambda day, size: day.__setitem__(-1, day[-1][1:] + day[-1][:1]),
            lambda day, size: day.__setitem__(1, day[1][:-2] + day[1][:-3:-1]),
        ])

    def test_a_thing_twice(self):
        self.with_changed_days([
            lambda day, size: day.__setitem__(0, day[0] + day[0][-1:]),
            lambda day, size: day.__setitem__(0, day[0][:1] + day[0]),
            lambda day, size: day.__setitem__(0, tuple(sorted(day[0] + day[1][:1]))),
            lambda day, size: day.__setitem__(0, tuple(sorted(day[0][1:] + day[1][:1]))),
            lambda day, size: day.__setitem__(0, day[1]),
        ])

    def test_a_thing_left_out(self):
        self.with_changed_days([
            lambda day, size: day.__setitem__(0, day[0][1:]),
            lambda day, size: day.__setitem__(-1, day[-1][:-1]),
            lambda day, size: day.__setitem__(0, day[0][:-1] + (size * size,)),
            lambda day, size: day.__setitem__(0, (-1,) + day[0][1:]),
        ])

    def test_a_thing_that_is_none(self):
        self.with_changed_days([
            lambda day, size: day.__setitem__(0, (-1,) + day[0]),
            lambda day, size: day.__setitem__(1, (-10 ** 60,) + day[1]),
            lambda day, size: day.__setitem__(1, day[1] + (size * size,)),
            lambda day, size: day.__setitem__(0, day[0] + (10 ** 60,)),
        ])

    def test_an_empty_block(self):
        self.with_changed_days([
            lambda day, size: day.__setitem__(0, ()),
            lambda day, size: day.__setitem__(slice(0, 2), [(), tuple(sorted(day[0] + day[1]))]),
            lambda day, size: day.__setitem__(slice(0, 2), [tuple(sorted(day[0] + day[1])), ()]),
        ])

    def test_all_in_one_block(self):
        self.refused(2, [[(0, 1, 2, 3), ()], [(), (0, 1, 2, 3)]])
        self.refused(2, [[(0, 1, 2, 3), ()], [(0, 1), (2, 3)]])

    def test_the_same_day_twice(self):
        for size, squares in sets_of_squares():
            days = net_days(size, squares)
            for day in days:
                self.refused(size, days + [day])
                self.refused(size, days + [day[::-1]])
                self.refused(size, [deepcopy(day)] + days)
                self.refused(size, [day, day])

    def test_blocks_with_no_thing_or_two_in_common(self):
        self.refused(3, [[(0, 1, 2), (3, 4, 5), (6, 7, 8)], [(0, 1, 3), (2, 4, 6), (5, 7, 8)]])
        self.refused(3, [[(0, 1, 2), (3, 4, 5), (6, 7, 8)], [(0, 3, 6), (1, 4, 8), (2, 5, 7)],
                         [(0, 4, 8), (1, 5, 6), (2, 3, 7)]])
        rows, columns = net_days(4, [])
        for square in (rows_turned(4, 1), rows_turned(4, 3)):
            self.assertEqual(squares_by(4, [rows, columns, net_days(4, [square])[2]]), [square])
        both = [net_days(4, [square])[2] for square in (rows_turned(4, 1), rows_turned(4, 3))]
        self.refused(4, [rows, columns] + both)
        self.refused(4, both + [rows, columns])
        self.refused(4, [rows, both[0], columns, both[1]])
        # Of sizes other than size, though each thing stands once.
        self.refused(2, [[(0,), (1, 2, 3)], [(0, 1), (2, 3)]])
        self.refused(2, [[(0, 1), (2, 3)], [(0, 2, 3), (1,)]])

    def test_all_days_of_two_blocks(self):
        blocks = [block for few in range(5) for block in combinations(range(4), few)]
        good = [day for day in product(blocks, repeat=2) if sorted(day[0] + day[1]) == [0, 1, 2, 3]]
        for one, other in product(product(blocks, repeat=2), repeat=2):
            each = all(len(set(left) & set(right)) == 1 for left, right in product(one, other))
            due = None if one in good and other in good and each else NoNet
            self.assertIs(refusal_of(squares_by, 2, [list(one), list(other)]), due, (one, other))


class Names(unittest.TestCase):
    def test_names_of_arguments(self):
        self.assertEqual(net_days(squares=[TWO], size=2), net_days(2, [TWO]))
        self.assertEqual(net(squares=[TWO], size=2), net(2, [TWO]))
        self.assertEqual(squares_by(days=net_days(2, [TWO]), size=2), [TWO])


if __name__ == "__main__":
    unittest.main()
