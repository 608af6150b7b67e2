"""Rests between, plans rolled out of bases, and bases of squares: points [11] and [12]."""

import unittest
from collections import Counter
from itertools import combinations, combinations_with_replacement, product

from evenblocks.errors import NoPrime
from evenblocks.evens import even_of
from evenblocks.plans import checked
from evenblocks.rests import first_base, rests_between, rolled, square_bases
from tests.samples import kinds_of, refusal_of, whole_numbers

PRIMES = (5, 7, 11, 13, 17, 19, 23, 29, 31, 37, 41, 43, 47, 53, 59, 61, 67, 71, 73, 79, 83, 89, 97, 101, 103, 107,
          109, 113, 127, 131, 137, 139, 149, 151, 157, 163, 167, 173, 179, 181, 191, 193, 197, 199)


def bases_of(many):
    return [base for size in range(1, many + 1) for base in combinations(range(many), size)]


def plain_rests(many, bases):
    found = Counter((a - b) % many for base in bases for a, b in product(base, repeat=2) if a != b)
    return [found[d] for d in range(many)]


def plain_rolled(many, bases):
    return many, sorted(tuple(sorted((a + t) % many for a in base)) for base in bases for t in range(many))


def meet_of(many, bases):
    """The meet of the rolled plan as point [11] tells it, None where it isn't even."""
    sizes, numbers = {len(base) for base in bases}, set(plain_rests(many, bases)[1:])
    return numbers.pop() if len(sizes) == 1 and min(sizes) >= 2 and len(numbers) == 1 else None


def some_bases():
    """Lists of one base or more with how many things they are of."""
    for many in range(2, 8):
        for base in bases_of(many):
            yield many, [base]
    for many in range(2, 6):
        for bases in product(bases_of(many), repeat=2):
            yield many, list(bases)
    for bases in combinations_with_replacement(bases_of(4), 3):
        yield 4, list(bases)
    for many, size in ((9, 3), (9, 4), (13, 3), (13, 4), (8, 4)):
        starts = [base for base in combinations(range(many), size) if base[0] == 0]
        for bases in combinations(starts, 2):
            yield many, list(bases)
    yield 21, [(0, 1, 4, 14, 16)]
    yield 19, [(0, 1, 8), (0, 2, 5), (0, 4, 13)]
    yield 200, [tuple(range(200))]
    yield 200, [(0,), (199,), (0, 100), (0, 100)]
    yield 197, [(0, step) for step in range(1, 61)]


class RestsBetween(unittest.TestCase):
    def told(self, many, bases, answer):
        self.assertEqual(kinds_of(rests_between(many, bases)), kinds_of(answer), (many, bases))

    def test_no_base(self):
        for many in (2, 3, 7, 200):
            self.told(many, [], [0] * many)

    def test_one_base(self):
        self.told(2, [(0,)], [0, 0])
        self.told(2, [(0, 1)], [0, 2])
        self.told(3, [(2,)], [0, 0, 0])
        self.told(3, [(0, 1)], [0, 1, 1])
        self.told(4, [(0, 2)], [0, 0, 2, 0])
        self.told(4, [(1, 3)], [0, 0, 2, 0])
        self.told(5, [(0, 1, 2)], [0, 2, 1, 1, 2])
        self.told(7, [(0, 1, 3)], [0, 1, 1, 1, 1, 1, 1])
        self.told(7, [(0, 1, 2)], [0, 2, 1, 0, 0, 1, 2])
        self.told(200, [tuple(range(200))], [0] + [200] * 199)

    def test_several_bases(self):
        self.told(13, [(0, 1, 4), (0, 2, 7)], [0] + [1] * 12)
        self.told(13, [(0, 2, 7), (0, 1, 4)], [0] + [1] * 12)
        self.told(5, [(0, 1), (3,), (0, 2, 4)], [0, 2, 2, 2, 2])
        self.told(200, [(0, 100)] * 60, [0] * 100 + [120] + [0] * 99)

    def test_alike_bases_count_each(self):
        self.told(7, [(0, 1, 3)] * 3, [0] + [3] * 6)
        self.told(3, [(0, 1), (0, 1)], [0, 2, 2])

    def test_pairs_of_two_bases_do_not_count(self):
        self.told(5, [(0,), (1,)], [0] * 5)

    def test_by_plain_counts(self):
        for many, bases in some_bases():
            self.told(many, bases, plain_rests(many, bases))


class Rolled(unittest.TestCase):
    def told(self, many, bases, answer):
        self.assertEqual(kinds_of(rolled(many, bases)), kinds_of((many, answer)), (many, bases))

    def test_one_base(self):
        self.told(2, [(0,)], [(0,), (1,)])
        self.told(2, [(1,)], [(0,), (1,)])
        self.told(3, [(0, 1)], [(0, 1), (0, 2), (1, 2)])
        self.told(5, [(0, 1, 3)], [(0, 1, 3), (0, 2, 3), (0, 2, 4), (1, 2, 4), (1, 3, 4)])
        self.told(7, [(0, 1, 3)],
                  [(0, 1, 3), (0, 2, 6), (0, 4, 5), (1, 2, 4), (1, 5, 6), (2, 3, 5), (3, 4, 6)])

    def test_alike_blocks_stay(self):
        self.told(2, [(0, 1)], [(0, 1)] * 2)
        self.told(3, [(0, 1, 2)], [(0, 1, 2)] * 3)
        self.told(4, [(0, 2)], [(0, 2), (0, 2), (1, 3), (1, 3)])
        self.told(4, [(1, 3)], [(0, 2), (0, 2), (1, 3), (1, 3)])

    def test_alike_bases(self):
        self.told(3, [(0, 1), (0, 1)], [(0, 1), (0, 1), (0, 2), (0, 2), (1, 2), (1, 2)])
        self.told(3, [(0, 1), (1, 2)], [(0, 1), (0, 1), (0, 2), (0, 2), (1, 2), (1, 2)])

    def test_several_bases_are_sorted_together(self):
        self.told(3, [(1, 2), (0,)], [(0,), (0, 1), (0, 2), (1,), (1, 2), (2,)])

    def test_by_plain_words(self):
        for many, bases in some_bases():
            self.assertEqual(kinds_of(rolled(many, bases)), kinds_of(plain_rolled(many, bases)), (many, bases))
            self.assertIs(checked(rolled(many, bases)), True)

    def test_even_just_where_the_rests_tell_one_number(self):
        even = uneven = 0
        for many, bases in some_bases():
            told, meet = even_of(rolled(many, bases)), meet_of(many, bases)
            if meet is None:
                uneven += 1
                self.assertIs(told, None, (many, bases))
            else:
                even += 1
                size = len(bases[0])
                due = (many, many * len(bases), size * len(bases), size, meet)
                self.assertEqual(kinds_of(told), kinds_of(due), (many, bases))
        self.assertGreater(min(even, uneven), 100)

    def test_one_number_is_not_enough(self):
        # All rests but 0 are told equally often here, but the blocks are too small or of two sizes.
        self.assertIs(even_of(rolled(5, [(0,)])), None)
        self.assertIs(even_of(rolled(3, [(0, 1), (0, 1, 2)])), None)
        self.assertIs(even_of(rolled(3, [(0, 1), (2,)])), None)
        self.assertEqual(even_of(rolled(3, [(0, 1, 2), (0, 1, 2)])), (3, 6, 6, 3, 6))


class SquareBases(unittest.TestCase):
    def test_by_hand(self):
        for prime, bases in ((5, [(1, 4), (2, 3)]), (7, [(1, 2, 4)]), (11, [(1, 3, 4, 5, 9)]),
                             (13, [(1, 3, 4, 9, 10, 12), (2, 5, 6, 7, 8, 11)])):
            self.assertEqual(kinds_of(square_bases(prime)), kinds_of(bases))

    def test_all_primes(self):
        for prime in PRIMES:
            powers = [pow(rest, prime // 2, prime) for rest in range(prime)]
            squares = tuple(rest for rest in range(prime) if powers[rest] == 1)
            others = tuple(rest for rest in range(1, prime) if powers[rest] != 1)
            due = [squares] if prime % 4 == 3 else [squares, others]
            self.assertEqual(kinds_of(square_bases(prime)), kinds_of(due))

    def test_rolled_they_are_even(self):
        for prime in PRIMES:
            bases = square_bases(prime)
            half, number = prime // 2, len(bases)
            meet = (prime - 3) // 4 if prime % 4 == 3 else (prime - 3) // 2
            self.assertEqual(number, 1 if prime % 4 == 3 else 2)
            self.assertEqual(even_of(rolled(prime, bases)), (prime, prime * number, half * number, half, meet))
            self.assertEqual(rests_between(prime, bases), [0] + [meet] * (prime - 1))

    def test_refused(self):
        for prime in whole_numbers(-30, 500):
            self.assertIs(refusal_of(square_bases, prime), None if prime in PRIMES else NoPrime, prime)


class FirstBase(unittest.TestCase):
    def test_by_hand(self):
        for many, size, base in ((2, 2, (0, 1)), (3, 2, (0, 1)), (3, 3, (0, 1, 2)), (4, 2, None), (4, 3, (0, 1, 2)),
                                 (4, 4, (0, 1, 2, 3)), (5, 5, (0, 1, 2, 3, 4)), (7, 2, None), (7, 3, (0, 1, 3)),
                                 (7, 4, (0, 1, 2, 4)), (8, 3, None), (11, 5, (0, 1, 2, 4, 7)), (13, 4, (0, 1, 3, 9)),
                                 (21, 5, (0, 1, 4, 14, 16)), (21, 4, None), (21, 2, None)):
            self.assertEqual(kinds_of(first_base(many, size)), kinds_of(base), (many, size))

    def test_all_numbers_of_the_point(self):
        found = 0
        for many in range(2, 22):
            for size in range(2, min(many, 5) + 1):
                all_bases = [base for base in combinations(range(many), size) if base[0] == 0]
                good = [base for base in all_bases if len(set(plain_rests(many, [base])[1:])) == 1]
                due = min(good) if good else None
                self.assertEqual(kinds_of(first_base(many, size)), kinds_of(due), (many, size))
                found += due is not None
        self.assertGreater(found, 5)

    def test_rolled_it_is_even(self):
        for many in range(2, 22):
            for size in range(2, min(many, 5) + 1):
                base = first_base(many, size)
                if base is not None:
                    meet = size * (size - 1) // (many - 1)
                    self.assertEqual(even_of(rolled(many, [base])), (many, many, size, size, meet))


class Names(unittest.TestCase):
    def test_names_of_arguments(self):
        self.assertEqual(rests_between(many=3, bases=[(0, 1)]), [0, 1, 1])
        self.assertEqual(rolled(bases=[(0,)], many=2), (2, [(0,), (1,)]))
        self.assertEqual(square_bases(prime=7), [(1, 2, 4)])
        self.assertEqual(first_base(many=7, size=3), (0, 1, 3))


if __name__ == "__main__":
    unittest.main()
