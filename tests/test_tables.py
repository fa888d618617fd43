"""Tables [2.1]: products [2.2], ranks [2.3], readers and noughts [2.4], and [0.2] for all of them."""

import copy
import itertools
import random
import unittest

from mixposts.primes import Field
from mixposts.tables import nought, ones, product, rank, reader, times_row

PRIMES = (2, 3, 5, 7, 13, 999983)


def drawn(source, prime, height, width):
    return [[source.randrange(prime) for place in range(width)] for row in range(height)]


def poor(source, prime, height, width, wealth):
    """A table whose rows are all sums of a few rows, so that its rank is at most wealth."""
    few = drawn(source, prime, wealth, width)
    return plain_product(prime, drawn(source, prime, height, wealth), few)


def plain_product(prime, one, other):
    return [
        [sum(row[k] * other[k][place] for k in range(len(other))) % prime for place in range(len(other[0]))]
        for row in one
    ]


def plain_ones(many):
    return [[int(row == place) for place in range(many)] for row in range(many)]


def combined(prime, rows, numbers, width):
    return [sum(number * row[place] for number, row in zip(numbers, rows)) % prime for place in range(width)]


def free_rows(prime, rows, width):
    """Whether no numbers, not all 0, make the row of noughts of these rows, tried one by one."""
    return not any(
        any(numbers) and not any(combined(prime, rows, numbers, width))
        for numbers in itertools.product(range(prime), repeat=len(rows))
    )


def rank_by_the_words(prime, table, width):
    for many in range(len(table), 0, -1):
        for rows in itertools.combinations(table, many):
            if free_rows(prime, rows, width):
                return many
    return 0


def all_tables(prime, height, width):
    for numbers in itertools.product(range(prime), repeat=height * width):
        yield [list(numbers[row * width:(row + 1) * width]) for row in range(height)]


def small_tables():
    for prime, height, width in (
        (2, 1, 1), (2, 1, 3), (2, 3, 1), (2, 2, 2), (2, 3, 2), (2, 2, 3), (2, 3, 3), (2, 4, 2),
        (3, 1, 1), (3, 2, 2), (3, 3, 2), (3, 2, 3), (5, 1, 2), (5, 2, 2), (5, 2, 1),
    ):
        for table in all_tables(prime, height, width):
            yield prime, width, table


def varied_tables():
    source = random.Random(20)
    for prime in PRIMES:
        for height, width in ((1, 1), (1, 6), (6, 1), (4, 4), (7, 4), (4, 7), (9, 9)):
            yield prime, width, [[0] * width for row in range(height)]
            yield prime, width, drawn(source, prime, height, width)
            yield prime, width, poor(source, prime, height, width, min(height, width))
            yield prime, width, poor(source, prime, height, width, 1)
            yield prime, width, poor(source, prime, height, width, max(1, min(height, width) - 1))


class Products(unittest.TestCase):
    def test_told_example(self):
        field = Field(7)
        self.assertEqual(product(field, [[1, 2, 3], [4, 5, 6]], [[1, 0], [2, 6], [3, 1]]), [[0, 1], [4, 1]])

    def test_by_the_words(self):
        source = random.Random(1)
        for prime in PRIMES:
            for height, middle, width in ((1, 1, 1), (1, 4, 2), (3, 1, 5), (5, 3, 1), (4, 4, 4), (2, 6, 3)):
                one = drawn(source, prime, height, middle)
                other = drawn(source, prime, middle, width)
                self.assertEqual(product(Field(prime), one, other), plain_product(prime, one, other))

    def test_first_without_rows(self):
        self.assertEqual(product(Field(5), [], [[1, 2], [3, 4]]), [])

    def test_greatest_numbers_and_sizes(self):
        table = [[999982] * 60 for row in range(60)]
        self.assertEqual(product(Field(999983), table, table), [[60] * 60 for row in range(60)])

    def test_ones_on_either_side(self):
        source = random.Random(2)
        for prime in PRIMES:
            for height, width in ((1, 1), (2, 5), (5, 2), (4, 4)):
                field = Field(prime)
                table = drawn(source, prime, height, width)
                self.assertEqual(product(field, ones(height), table), table)
                self.assertEqual(product(field, table, ones(width)), table)

    def test_order_matters(self):
        field = Field(5)
        one = [[0, 1], [0, 0]]
        other = [[0, 0], [1, 0]]
        self.assertEqual(product(field, one, other), [[1, 0], [0, 0]])
        self.assertEqual(product(field, other, one), [[0, 0], [0, 1]])


class TimesRow(unittest.TestCase):
    def test_told_example(self):
        self.assertEqual(times_row(Field(5), [[1, 2, 3], [4, 0, 1]], [2, 3, 4]), [0, 2])

    def test_by_the_words(self):
        source = random.Random(3)
        for prime in PRIMES:
            for height, width in ((1, 1), (3, 5), (5, 3), (4, 4)):
                table = drawn(source, prime, height, width)
                row = drawn(source, prime, 1, width)[0]
                expected = [sum(a * b for a, b in zip(mine, row)) % prime for mine in table]
                self.assertEqual(times_row(Field(prime), table, row), expected)

    def test_without_rows(self):
        self.assertEqual(times_row(Field(5), [], [1, 2]), [])

    def test_ones_change_nothing(self):
        self.assertEqual(times_row(Field(7), ones(4), [6, 0, 3, 1]), [6, 0, 3, 1])


class Ones(unittest.TestCase):
    def test_by_the_words(self):
        self.assertEqual(ones(1), [[1]])
        self.assertEqual(ones(3), [[1, 0, 0], [0, 1, 0], [0, 0, 1]])
        for many in range(1, 61):
            self.assertEqual(ones(many), plain_ones(many))


class Ranks(unittest.TestCase):
    def test_small_tables_by_the_words(self):
        for prime, width, table in small_tables():
            self.assertEqual(rank(Field(prime), table), rank_by_the_words(prime, table, width), (prime, table))

    def test_without_rows(self):
        for prime in PRIMES:
            self.assertEqual(rank(Field(prime), []), 0)

    def test_noughts(self):
        self.assertEqual(rank(Field(7), [[0, 0, 0]]), 0)
        self.assertEqual(rank(Field(7), [[0, 0, 0], [0, 0, 0]]), 0)
        self.assertEqual(rank(Field(7), [[0, 0, 0], [0, 0, 3], [0, 0, 0]]), 1)

    def test_rows_told_twice(self):
        self.assertEqual(rank(Field(7), [[1, 2, 3], [1, 2, 3]]), 1)
        self.assertEqual(rank(Field(7), [[1, 2, 3], [0, 1, 1], [1, 2, 3]]), 2)

    def test_so_many_times_another(self):
        self.assertEqual(rank(Field(7), [[1, 2, 3], [3, 6, 2]]), 1)
        self.assertEqual(rank(Field(11), [[1, 2, 3], [3, 6, 2]]), 2)

    def test_sums_of_others(self):
        self.assertEqual(rank(Field(5), [[1, 0, 2], [0, 1, 3], [1, 1, 0]]), 2)
        self.assertEqual(rank(Field(7), [[1, 0, 2], [0, 1, 3], [1, 1, 0]]), 3)

    def test_more_rows_than_the_width_and_fewer(self):
        self.assertEqual(rank(Field(5), [[1, 0], [0, 1], [2, 3], [4, 4]]), 2)
        self.assertEqual(rank(Field(5), [[1, 0, 0, 0], [0, 0, 0, 4]]), 2)
        self.assertEqual(rank(Field(2), [[1], [1], [0]]), 1)

    def test_ones_with_sums_have_the_rank_of_the_ones(self):
        source = random.Random(4)
        for prime in PRIMES:
            for many in (1, 3, 8):
                table = ones(many) + drawn(source, prime, 3, many)
                source.shuffle(table)
                self.assertEqual(rank(Field(prime), table), many)

    def test_greatest_sizes(self):
        source = random.Random(5)
        field = Field(999983)
        self.assertEqual(rank(field, ones(60)), 60)
        self.assertTrue(rank(field, poor(source, 999983, 60, 60, 7)) <= 7)
        self.assertEqual(rank(field, [[1] * 60 for row in range(60)]), 1)


class ReadersAndNoughts(unittest.TestCase):
    def just_one_holds(self, prime, width, table):
        field = Field(prime)
        read = reader(field, table, width)
        none = nought(field, table, width)
        self.assertEqual((read is None), (none is not None), (prime, table))
        self.assertEqual((read is None), rank(field, table) < width, (prime, table))
        if read is not None:
            self.reads(prime, width, table, read)
        else:
            self.is_nought(prime, width, table, none)

    def reads(self, prime, width, table, read):
        self.assertEqual([len(row) for row in read], [len(table)] * width)
        self.assertTrue(all(0 <= number < prime for row in read for number in row))
        self.assertEqual(plain_product(prime, read, table), plain_ones(width))
        self.assertEqual(product(Field(prime), read, table), ones(width))

    def is_nought(self, prime, width, table, none):
        self.assertEqual(len(none), width)
        self.assertTrue(all(0 <= number < prime for number in none))
        self.assertTrue(any(none))
        self.assertEqual([sum(a * b for a, b in zip(row, none)) % prime for row in table], [0] * len(table))
        self.assertEqual(times_row(Field(prime), table, none), [0] * len(table))

    def test_small_tables(self):
        for prime, width, table in small_tables():
            self.just_one_holds(prime, width, table)

    def test_varied_tables(self):
        for prime, width, table in varied_tables():
            self.just_one_holds(prime, width, table)

    def test_without_rows(self):
        for prime in PRIMES:
            for many in (1, 2, 6, 60):
                self.assertIsNone(reader(Field(prime), [], many))
                self.is_nought(prime, many, [], nought(Field(prime), [], many))

    def test_the_reader_of_a_square_table_is_the_only_one(self):
        self.assertEqual(reader(Field(7), [[0, 2], [3, 0]], 2), [[0, 5], [4, 0]])
        self.assertIsNone(nought(Field(7), [[0, 2], [3, 0]], 2))

    def test_a_first_place_of_noughts(self):
        self.just_one_holds(5, 3, [[0, 1, 2], [0, 3, 1]])
        self.just_one_holds(5, 2, [[0, 1], [0, 0], [2, 2]])

    def test_numbers_beyond_the_field_are_taken_as_fitted(self):
        for table in ([[5, 0], [1, -5]], [[6, 10], [-1, 7]], [[5]], [[-4]]):
            fitted = [[number % 5 for number in row] for row in table]
            width = len(table[0])
            for ask in (reader, nought):
                self.assertEqual(ask(Field(5), table, width), ask(Field(5), fitted, width))
            self.assertEqual(rank(Field(5), table), rank(Field(5), fitted))

    def test_greatest_sizes(self):
        source = random.Random(6)
        self.just_one_holds(999983, 60, drawn(source, 999983, 60, 60))
        self.just_one_holds(999983, 60, poor(source, 999983, 60, 60, 59))
        self.just_one_holds(2, 60, drawn(source, 2, 60, 60))
        self.just_one_holds(3, 30, drawn(source, 3, 60, 30))
        self.just_one_holds(3, 60, drawn(source, 3, 30, 60))


def spoil(value):
    """Changes every list within, as an asker may do with what is their own."""
    for row in value:
        if isinstance(row, list):
            row[0] += 1
            row.append(9)
    value.append(7)


class Kept(unittest.TestCase):
    """[0.2]: what is handed in stays, what is told is new, and asked again the same is told."""

    TABLE = [[1, 2, 0], [2, 4, 1], [0, 0, 3], [4, 1, 1]]
    POOR = [[1, 2, 0], [2, 4, 0]]

    def asked(self, ask, *handed):
        field = Field(5)
        kept = copy.deepcopy(handed)
        first = ask(field, *handed)
        same = copy.deepcopy(first)
        self.assertEqual(handed, kept)
        self.unshared(first, handed)
        if isinstance(first, list):
            spoil(first)
        self.assertEqual(handed, kept)
        self.assertEqual(ask(field, *handed), same)
        self.assertEqual(ask(Field(5), *copy.deepcopy(kept)), same)

    def unshared(self, told, handed):
        if not isinstance(told, list):
            return
        mine = [told] + [row for row in told if isinstance(row, list)]
        self.assertEqual(len({id(value) for value in mine}), len(mine))
        theirs = [value for value in handed if isinstance(value, list)]
        theirs += [row for value in theirs for row in value if isinstance(row, list)]
        self.assertFalse({id(value) for value in mine} & {id(value) for value in theirs})

    def test_products(self):
        self.asked(product, self.TABLE, [[1, 2], [3, 4], [0, 1]])
        self.asked(product, [[1, 0, 0], [0, 1, 0], [0, 0, 1]], self.TABLE[:3])
        self.asked(times_row, self.TABLE, [1, 2, 3])
        self.asked(times_row, [[1, 0], [0, 1]], [3, 4])
        self.asked(lambda field, many: ones(many), 4)

    def test_one_table_on_both_sides(self):
        square = [[1, 2], [3, 4]]
        self.assertEqual(product(Field(5), square, square), [[2, 0], [0, 2]])
        self.assertEqual(square, [[1, 2], [3, 4]])

    def test_a_row_handed_in_twice(self):
        row = [1, 2]
        told = product(Field(5), [row, row], [[1, 0], [0, 1]])
        told[0][0] = 4
        self.assertEqual((row, told[1]), ([1, 2], [1, 2]))

    def test_ranks(self):
        self.asked(rank, self.TABLE)
        self.asked(rank, self.POOR)
        self.asked(rank, [])

    def test_readers_and_noughts(self):
        for ask in (reader, nought):
            self.asked(ask, self.TABLE, 3)
            self.asked(ask, self.POOR, 3)
            self.asked(ask, [], 3)
            self.asked(ask, [[1, 0], [0, 1]], 2)

    def test_changed_behind_the_call(self):
        table = copy.deepcopy(self.TABLE)
        read = reader(Field(5), table, 3)
        told = copy.deepcopy(read)
        spoil(table)
        self.assertEqual(read, told)


if __name__ == "__main__":
    unittest.main()
