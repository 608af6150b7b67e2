"""Plans rolled out of rests: each base is moved on, rest by rest."""

from evenblocks.errors import NoPrime

LEAST_PRIME = 5
GREATEST_PRIME = 199


def rests_between(many, bases):
    """For each rest by many, how many pairs of unlike rests of one base are so far apart."""
    found = [0] * many
    for base in bases:
        for one in base:
            for other in base:
                if one != other:
                    found[(one - other) % many] += 1
    return found


def rolled(many, bases):
    """The plan of many things with each base moved on by each number below many."""
    blocks = []
    for base in bases:
        for step in range(many):
            blocks.append(tuple(sorted([(rest + step) % many for rest in base])))
    return (many, sorted(blocks))


def square_bases(prime):
    """The base of the rests of squares but 0, and where it takes two that of the others; refused with NoPrime."""
    if prime < LEAST_PRIME or prime > GREATEST_PRIME or not is_prime(prime):
        raise NoPrime(f"that is none of the primes from {LEAST_PRIME} to {GREATEST_PRIME}")
    squares = tuple(sorted({x * x % prime for x in range(1, prime)}))
    if prime % 4 == 3:
        return [squares]
    return [squares, tuple([rest for rest in range(1, prime) if rest not in squares])]


def is_prime(number):
    """Whether no number between 1 and a number from 2 on goes into it."""
    return all(number % factor != 0 for factor in range(2, number))


def first_base(many, size):
    """The first base of that size that begins with 0 and tells one number for all rests but 0, or None."""
    return first_from(many, size, (0,))


def first_from(many, size, start):
    """The same for the bases that begin with these rests."""
    if len(start) >= size:
        return start if is_one_number(rests_between(many, [start])[1:]) else None
    for rest in range(start[-1] + 1, many):
        found = first_from(many, size, start + (rest,))
        if found is not None:
            return found
    return None


def is_one_number(numbers):
    """Whether all of the numbers are the same."""
    return all(number == numbers[0] for number in numbers)
