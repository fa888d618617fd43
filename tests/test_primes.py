"""Primes [1.1] and the numbers of a field [1.2]."""

import unittest

from mixposts.errors import NoBack, NoPrime
from mixposts.primes import Field, is_prime

LIMIT = 10 ** 6
SMALL = (2, 3, 5, 7, 11, 13)
FORTY = 10 ** 40 - 1


def sieve(limit):
    marks = [False, False] + [True] * (limit - 1)
    for number in range(2, limit + 1):
        if marks[number]:
            for multiple in range(2 * number, limit + 1, number):
                marks[multiple] = False
    return marks


class Primes(unittest.TestCase):
    def told(self, number, expected):
        self.assertIs(is_prime(number), expected, number)

    def test_below_two_none_is(self):
        for number in (-FORTY, -LIMIT, -7, -5, -4, -3, -2, -1, 0, 1):
            self.told(number, False)

    def test_small_numbers_by_the_words(self):
        for number in range(2, 1500):
            self.told(number, all(number % divisor for divisor in range(2, number)))

    def test_squares_of_primes_and_their_neighbours(self):
        marks = sieve(LIMIT)
        for number in range(2, 1000):
            if marks[number]:
                for near in (number * number - 1, number * number, number * number + 1):
                    self.told(near, marks[near])

    def test_products_of_two(self):
        for one in (2, 3, 31, 499, 991, 997):
            for other in (2, 3, 7, 97, 983, 997):
                self.told(one * other, False)

    def test_numbers_up_to_the_bound(self):
        marks = sieve(LIMIT)
        for number in list(range(0, LIMIT + 1, 97)) + list(range(LIMIT - 500, LIMIT + 1)):
            self.told(number, marks[number])

    def test_the_last_prime_and_the_bound(self):
        self.told(999983, True)
        self.told(LIMIT, False)


class Making(unittest.TestCase):
    def refused(self, number):
        with self.assertRaises(NoPrime, msg=number):
            Field(number)

    def test_field_of_a_prime(self):
        for prime in SMALL + (997, 65537, 999979, 999983):
            self.assertEqual(Field(prime).prime, prime)

    def test_no_primes_are_refused(self):
        for number in (4, 6, 8, 9, 15, 25, 49, 121, 997 * 997, 999983 - 1, 999999, LIMIT):
            self.refused(number)

    def test_below_two_is_refused(self):
        for number in (1, 0, -1, -2, -3, -7, -999983, -FORTY):
            self.refused(number)

    def test_above_the_bound_is_refused_also_where_prime(self):
        for number in (1000001, 1000003, 1000033, 2 ** 31 - 1, 2 ** 61 - 1, 2 ** 127 - 1, FORTY):
            self.refused(number)


class Fitting(unittest.TestCase):
    def fits(self, prime, number):
        told = Field(prime).fit(number)
        self.assertTrue(0 <= told < prime, (prime, number))
        self.assertEqual((number - told) % prime, 0, (prime, number))

    def test_near_nought(self):
        for prime in SMALL:
            for number in range(-3 * prime, 3 * prime + 1):
                self.fits(prime, number)

    def test_up_to_forty_figures(self):
        for prime in SMALL + (999983,):
            for number in (FORTY, 10 ** 39, 12345678901234567890, LIMIT, prime - 1, prime, prime + 1):
                self.fits(prime, number)
                self.fits(prime, -number)

    def test_told_examples(self):
        self.assertEqual(Field(7).fit(-1), 6)
        self.assertEqual(Field(7).fit(-7), 0)
        self.assertEqual(Field(7).fit(20), 6)
        self.assertEqual(Field(2).fit(-3), 1)


class Reckoning(unittest.TestCase):
    def reckoned(self, prime, one, other):
        field = Field(prime)
        self.assertEqual(field.plus(one, other), (one + other) % prime)
        self.assertEqual(field.minus(one, other), (one - other) % prime)
        self.assertEqual(field.times(one, other), (one * other) % prime)

    def test_all_pairs_of_small_fields(self):
        for prime in SMALL:
            for one in range(prime):
                for other in range(prime):
                    self.reckoned(prime, one, other)

    def test_pairs_of_the_greatest_field(self):
        numbers = (0, 1, 2, 499991, 499992, 999981, 999982)
        for one in numbers:
            for other in numbers:
                self.reckoned(999983, one, other)


class Backs(unittest.TestCase):
    def back_holds(self, field, number):
        told = field.back(number)
        self.assertTrue(0 < told < field.prime, (field.prime, number))
        self.assertEqual(told * number % field.prime, 1, (field.prime, number))

    def test_all_of_small_fields(self):
        for prime in SMALL + (997,):
            for number in range(1, prime):
                self.back_holds(Field(prime), number)

    def test_many_of_the_greatest_field(self):
        field = Field(999983)
        for number in list(range(1, 999983, 1013)) + [999981, 999982]:
            self.back_holds(field, number)

    def test_over_is_the_product_with_the_back(self):
        for prime in SMALL:
            field = Field(prime)
            for one in range(prime):
                for other in range(1, prime):
                    told = field.over(one, other)
                    self.assertTrue(0 <= told < prime)
                    self.assertEqual(told, one * field.back(other) % prime)
                    self.assertEqual(told * other % prime, one)

    def test_over_in_the_greatest_field(self):
        field = Field(999983)
        for one, other in ((0, 5), (1, 2), (999982, 999982), (123456, 654321)):
            told = field.over(one, other)
            self.assertTrue(0 <= told < 999983)
            self.assertEqual(told * other % 999983, one)

    def test_nought_has_no_back(self):
        for prime in SMALL + (999983,):
            field = Field(prime)
            with self.assertRaises(NoBack):
                field.back(0)
            for one in (0, 1, prime - 1):
                with self.assertRaises(NoBack):
                    field.over(one, 0)

    def test_a_refusal_changes_nothing(self):
        field = Field(13)
        before = [field.back(number) for number in range(1, 13)]
        with self.assertRaises(NoBack):
            field.back(0)
        self.assertEqual([field.back(number) for number in range(1, 13)], before)
        self.assertEqual(field.prime, 13)


if __name__ == "__main__":
    unittest.main()
