"""Small fields: their things are numbers, whose digits stand for sums of powers of x.

Digits are lists or tuples of numbers, the first one for x to the power 0.
"""

from evenblocks.errors import ByNought, NoField

ORDERS = (2, 3, 4, 5, 7, 8, 9, 11, 13, 16, 17, 19, 23, 25, 27, 29, 31, 32)


class Field:
    """The field of one order, as field_of tells it."""

    def __init__(self, order, prime, deep, rule):
        self.order = order
        self.prime = prime
        self.deep = deep
        self.rule = rule

    def plus(self, one, other):
        """The first of two things and the other, digit by digit."""
        pairs = self.digits_beside(one, other)
        return number_of([left + right for left, right in pairs], self.prime)

    def minus(self, one, other):
        """The first of two things less the other, digit by digit."""
        pairs = self.digits_beside(one, other)
        return number_of([left - right for left, right in pairs], self.prime)

    def times(self, one, other):
        """The product of two things, less as much of rule as leaves deep digits."""
        product = product_of(self.digits(one), self.digits(other))
        return number_of(left_by(product, self.rule, self.prime), self.prime)

    def over(self, one, other):
        """The thing that times other is the first of the two; refused with ByNought where other is 0."""
        if other == 0:
            raise ByNought("nothing goes over 0")
        for thing in range(self.order):
            if self.times(thing, other) == one:
                return thing
        # Not reached with things of the field: times a thing but 0 they are all things again.
        return None

    def digits(self, thing):
        """The digits of a thing."""
        return digits_of(thing, self.prime, self.deep)

    def digits_beside(self, one, other):
        """For each place the two digits that two things have there."""
        return list(zip(self.digits(one), self.digits(other)))


def field_of(order):
    """The field of that order; refused with NoField where it isn't one of ORDERS."""
    if order not in ORDERS:
        raise NoField("there is no field of that order here")
    prime = least_factor(order)
    deep = 1
    while power_of(prime, deep) < order:
        deep += 1
    return Field(order, prime, deep, first_rule(prime, deep))


def least_factor(number):
    """The least number from 2 on that goes into a number from 2 on."""
    factor = 2
    while number % factor != 0:
        factor += 1
    return factor


def power_of(base, deep):
    """The base to the power deep."""
    power = 1
    for step in range(deep):
        power *= base
    return power


def digits_of(number, base, deep):
    """The deep last digits by which a number is written to a base, the least one first."""
    digits = []
    for step in range(deep):
        digits.append(number % base)
        number //= base
    return digits


def number_of(digits, prime):
    """The number that these digits, each taken as its rest by prime, write to the base prime."""
    number = 0
    for digit in digits[::-1]:
        number = number * prime + digit % prime
    return number


def product_of(one, other):
    """The product of two sums of powers of x, its digits not yet taken as rests."""
    product = [0] * (len(one) + len(other) - 1)
    for place, left in enumerate(one):
        for behind, right in enumerate(other):
            product[place + behind] += left * right
    return product


def left_by(digits, rule, prime):
    """What is left of a sum of powers less so much of rule, whose last digit is 1, that it has fewer digits."""
    left = [digit % prime for digit in digits]
    deep = len(rule) - 1
    while len(left) > deep:
        last = left.pop()
        start = len(left) - deep
        for place in range(deep):
            left[start + place] = (left[start + place] - last * rule[place]) % prime
    return left


def first_rule(prime, deep):
    """The first tuple of deep + 1 digits, by its number, that ends in 1 and is no product of shorter ones."""
    number = power_of(prime, deep)
    while is_product(digits_of(number, prime, deep + 1), prime):
        number += 1
    return tuple(digits_of(number, prime, deep + 1))


def is_product(rule, prime):
    """Whether digits that end in 1 are a product of two sums of two digits or more."""
    # Of two such factors each may be taken to end in 1: the one can give to the other what it has more.
    for deep in range(1, len(rule) - 1):
        least = power_of(prime, deep)
        for number in range(least, 2 * least):
            factor = digits_of(number, prime, deep + 1)
            if not any(left_by(rule, factor, prime)):
                return True
    return False
