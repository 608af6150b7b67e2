"""Fields word by word from the document: sums of powers of x as tuples of digits, the least one first."""

from functools import lru_cache
from itertools import product

# By hand: order, prime and deep.
ORDERS = {2: (2, 1), 3: (3, 1), 4: (2, 2), 5: (5, 1), 7: (7, 1), 8: (2, 3), 9: (3, 2), 11: (11, 1), 13: (13, 1),
          16: (2, 4), 17: (17, 1), 19: (19, 1), 23: (23, 1), 25: (5, 2), 27: (3, 3), 29: (29, 1), 31: (31, 1),
          32: (2, 5)}
PLANE_ORDERS = (2, 3, 4, 5, 7, 8, 9, 11, 13)


def all_digits(prime, deep):
    """All tuples of so many digits, by the numbers that they write."""
    return [digits[::-1] for digits in product(range(prime), repeat=deep)]


def multiplied(one, other, prime):
    powers = [0] * (len(one) + len(other) - 1)
    for i, j in product(range(len(one)), range(len(other))):
        powers[i + j] += one[i] * other[j]
    return tuple(power % prime for power in powers)


def first_rule(prime, deep):
    """The first tuple that ends in 1 and is none of all the products."""
    products = set()
    for size in range(2, deep + 1):
        for one in all_digits(prime, size):
            for other in all_digits(prime, deep + 2 - size):
                if one[-1] != 0 and other[-1] != 0:
                    products.add(multiplied(one, other, prime))
    return [digits for digits in all_digits(prime, deep + 1) if digits[-1] == 1 and digits not in products][0]


class PlainField:
    """Tables of plus, minus and times."""

    def __init__(self, order):
        self.order = order
        self.prime, self.deep = ORDERS[order]
        self.rule = first_rule(self.prime, self.deep)
        self.written = all_digits(self.prime, self.deep)
        self.numbers = {digits: number for number, digits in enumerate(self.written)}
        things = range(order)
        self.plus = [[self.sums(one, other, 1) for other in things] for one in things]
        self.minus = [[self.sums(one, other, -1) for other in things] for one in things]
        self.times = [[self.left(one, other) for other in things] for one in things]

    def sums(self, one, other, sign):
        return self.numbers[tuple((left + sign * right) % self.prime
                                  for left, right in zip(self.written[one], self.written[other]))]

    def left(self, one, other):
        """What is left of the product less some multiple of rule, when only deep digits are left."""
        powers = multiplied(self.written[one], self.written[other], self.prime)
        left = set()
        for factor in all_digits(self.prime, self.deep - 1):
            taken = multiplied(factor, self.rule, self.prime) if factor else ()
            rest = tuple((power - more) % self.prime
                         for power, more in zip(powers, taken + (0,) * (len(powers) - len(taken)), strict=True))
            if not any(rest[self.deep:]):
                left.add(rest[:self.deep])
        [digits] = left
        return self.numbers[digits]


@lru_cache(maxsize=None)
def plain_field(order):
    return PlainField(order)
