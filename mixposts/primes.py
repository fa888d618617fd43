"""Primes, and the numbers of a field."""

from mixposts.errors import NoBack, NoPrime

GREATEST_PRIME = 1000000


def is_prime(number):
    if number < 2:
        return False
    divisor = 2
    # A number that is no prime has a divisor that is no greater than its root.
    while divisor * divisor <= number:
        if number % divisor == 0:
            return False
        divisor += 1
    return True


class Field:
    def __init__(self, prime):
        # The bound is asked first, as looking for divisors of a far greater number would take long.
        if prime > GREATEST_PRIME or not is_prime(prime):
            raise NoPrime()
        self.prime = prime

    def fit(self, number):
        return number % self.prime

    def plus(self, one, other):
        return self.fit(one + other)

    def minus(self, one, other):
        return self.fit(one - other)

    def times(self, one, other):
        return self.fit(one * other)

    def back(self, number):
        rest = self.fit(number)
        if rest == 0:
            raise NoBack()
        made = 1
        # The product of made and number always fits to rest. Rest falls each time, and as it never
        # divides the prime before it is 1, it never becomes 0.
        while rest != 1:
            made = self.times(made, 0 - self.prime // rest)
            rest = self.prime % rest
        return made

    def over(self, one, other):
        return self.times(one, self.back(other))
