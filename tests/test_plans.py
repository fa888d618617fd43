"""Plans looked over [5.1], what ties carry [5.2], their rows and what is heard [5.3]; [1.1] and [0.2] for these."""

import copy
import random
import unittest

from carrying import all_carry, shared, spoil, ties_into
from drawing import drawn_fallen, drawn_net, drawn_numbers, drawn_plan, drawn_size
from mixposts.errors import NoPlan, NoPost, NoPrime, PostError
from mixposts.nets import Net
from mixposts.plans import carried, checked_plan, heard, sent
from mixposts.reading import net_text, read_net

PRIMES = (2, 3, 5, 7, 11, 101, 999983)
NO_PRIMES = (-7, -2, -1, 0, 1, 4, 6, 9, 15, 25, 49, 91, 561, 999999, 1000000, 1000001, 1000003, 10 ** 18 + 9)

# Of the posts that mix, c hears two ties and d sends on to both listeners.
MIXING = (
    "house home\npost a\npost b\npost c\npost d\nlistener x\nlistener y\n"
    "tie home a\ntie home b\ntie a c\ntie b c\ntie c d\ntie a x\ntie d x\ntie b y\ntie d y"
)
MIXING_PLAN = {0: [1, 2], 1: [3, 4], 2: [2], 3: [5], 4: [1, 6], 5: [3], 6: [4], 7: [1], 8: [2]}
MIXING_SENT = {0: 5, 1: 5, 2: 3, 3: 4, 4: 6, 5: 1, 6: 3, 7: 5, 8: 5}
MIXING_ROWS = {
    0: [1, 2], 1: [3, 4], 2: [2, 4], 3: [1, 6], 4: [1, 5], 5: [3, 6], 6: [4, 6], 7: [3, 4], 8: [2, 3],
}

# Nothing leads to a and to the listener idle; the listener al sends on to bob.
LONELY = (
    "post a\nhouse home\nlistener al\nlistener bob\nlistener idle\n"
    "tie a al\ntie home al\ntie al bob\ntie a bob\ntie idle bob\ntie home bob"
)
LONELY_PLAN = {0: [], 1: [2, 3, 4], 2: [3, 4], 3: [], 4: [], 5: [1, 0, 4]}
LONELY_ROWS = {0: [0, 0, 0], 1: [2, 3, 4], 2: [3, 2, 1], 3: [0, 0, 0], 4: [0, 0, 0], 5: [1, 0, 4]}


def cut_and_put_in_again():
    """The tie from a to c is now 9, behind the one from b."""
    net = read_net(MIXING)
    net.cut_tie(2)
    net.tie("a", "c")
    return net


def again_plan():
    plan = {number: list(row) for number, row in MIXING_PLAN.items() if number != 2}
    plan[9] = [2]
    plan[4] = [6, 1]
    return plan


def turned(plan):
    return {number: plan[number] for number in sorted(plan, reverse=True)}


def drawn_cases(seed, turns, most_posts=20, most_ties=40):
    source = random.Random(seed)
    for turn in range(turns):
        house = turn % 10 != 9
        net = drawn_net(source, *drawn_size(source, most_posts, most_ties), house=house)
        many = source.randrange(1, 7)
        prime = source.choice(PRIMES)
        yield source, net, drawn_plan(source, net, many, prime), many, prime


class Refusing(unittest.TestCase):
    def refuses(self, net, plan, many, prime, number):
        text = net_text(net)
        kept = copy.deepcopy(plan)
        with self.assertRaises(PostError) as taken:
            checked_plan(net, plan, many, prime)
        self.assertIs(taken.exception.__class__, NoPlan)
        self.assertEqual(taken.exception.number, number)
        self.assertEqual((net_text(net), plan), (text, kept))
        self.assertEqual(list(plan), list(kept))

    def refuses_prime(self, net, plan, many, prime):
        with self.assertRaises(PostError) as taken:
            checked_plan(net, plan, many, prime)
        self.assertIs(taken.exception.__class__, NoPrime)


class LookedOver(unittest.TestCase):
    def told_again(self, net, plan, many, prime):
        kept = copy.deepcopy(plan)
        told = checked_plan(net, plan, many, prime)
        self.assertIs(told.__class__, dict)
        self.assertEqual(told, kept)
        self.assertEqual(list(told), sorted(kept))
        self.assertEqual(plan, kept)
        self.assertEqual(list(plan), list(kept))
        self.assertFalse(shared(told, plan))
        self.assertEqual(len({id(row) for row in told.values()}), len(told))
        for row in told.values():
            self.assertIs(row.__class__, list)

    def test_told_plans(self):
        self.told_again(read_net(MIXING), MIXING_PLAN, 2, 7)
        self.told_again(read_net(LONELY), LONELY_PLAN, 3, 5)

    def test_in_another_order(self):
        self.told_again(read_net(MIXING), turned(MIXING_PLAN), 2, 7)
        self.told_again(read_net(LONELY), turned(LONELY_PLAN), 3, 5)

    def test_one_list_for_several_ties(self):
        row = [1, 2]
        net = read_net("house home\nlistener bob\ntie home bob\ntie home bob")
        self.told_again(net, {1: row, 0: row}, 2, 3)

    def test_without_ties(self):
        for text in ("", "house home", "listener bob\nhouse home\npost a"):
            for many in range(1, 7):
                self.told_again(read_net(text), {}, many, 2)

    def test_each_count_of_numbers(self):
        net = read_net("house home\npost a\nlistener bob\ntie home a\ntie a bob\ntie home bob")
        for many in range(1, 7):
            self.told_again(net, {0: [1] * many, 1: [1], 2: list(range(many))}, many, 7)

    def test_ties_out_of_posts_that_hear_nothing(self):
        net = read_net("house home\npost a\nlistener bob\ntie a bob\ntie home bob")
        self.told_again(net, {0: [], 1: [1] * 4}, 4, 2)
        self.told_again(read_net("listener al\nlistener bob\ntie al bob\ntie al bob"), {1: [], 0: []}, 6, 2)

    def test_ties_that_were_cut(self):
        self.told_again(cut_and_put_in_again(), again_plan(), 2, 7)
        self.told_again(cut_and_put_in_again(), turned(again_plan()), 2, 7)

    def test_least_and_greatest_numbers(self):
        net = read_net("house home\nlistener bob\ntie home bob")
        for prime in PRIMES:
            self.told_again(net, {0: [0, prime - 1, 1]}, 3, prime)

    def test_drawn_plans(self):
        for source, net, plan, many, prime in drawn_cases(51, 150):
            self.told_again(net, plan, many, prime)

    def test_told_again_when_it_was_changed(self):
        net = read_net(MIXING)
        plan = copy.deepcopy(MIXING_PLAN)
        first = checked_plan(net, plan, 2, 7)
        spoil(first)
        self.assertEqual(plan, MIXING_PLAN)
        self.assertEqual(checked_plan(net, plan, 2, 7), MIXING_PLAN)
        self.assertEqual(net_text(net), MIXING)

    def test_changes_behind_the_call(self):
        net = read_net(MIXING)
        plan = copy.deepcopy(MIXING_PLAN)
        told = checked_plan(net, plan, 2, 7)
        spoil(plan)
        net.cut_tie(3)
        self.assertEqual(told, MIXING_PLAN)


class NoPrimes(Refusing):
    def test_with_a_good_plan(self):
        for prime in NO_PRIMES:
            self.refuses_prime(Net(), {}, 1, prime)
            self.refuses_prime(read_net("house home\nlistener bob\ntie home bob"), {0: [0, 0]}, 2, prime)
            self.refuses_prime(read_net(MIXING), {number: [0] * len(row) for number, row in MIXING_PLAN.items()}, 2,
                               prime)

    def test_ahead_of_a_wrong_plan(self):
        net = read_net("house home\nlistener bob\ntie home bob\ntie home bob")
        for prime in NO_PRIMES:
            for plan in ({}, {0: [0]}, {0: [0], 1: []}, {0: [0], 1: [prime]}, {0: [-1], 1: [0]},
                         {0: [0], 1: [0], 2: [0]}):
                self.refuses_prime(net, plan, 1, prime)


class NoPlans(Refusing):
    def with_row(self, number, row):
        return {**copy.deepcopy(MIXING_PLAN), number: row}

    def without(self, *numbers):
        return {number: list(row) for number, row in MIXING_PLAN.items() if number not in numbers}

    def test_a_tie_left_out(self):
        for number in MIXING_PLAN:
            self.refuses(read_net(MIXING), self.without(number), 2, 7, number)
        self.refuses(read_net(LONELY), {number: row for number, row in LONELY_PLAN.items() if number != 3}, 3, 5, 3)

    def test_a_list_too_short_or_too_long(self):
        for number, row in MIXING_PLAN.items():
            self.refuses(read_net(MIXING), self.with_row(number, row[:-1]), 2, 7, number)
            self.refuses(read_net(MIXING), self.with_row(number, row + [0]), 2, 7, number)
            self.refuses(read_net(MIXING), self.with_row(number, []), 2, 7, number)

    def test_a_list_that_should_be_empty(self):
        for number in (0, 3, 4):
            self.refuses(read_net(LONELY), {**LONELY_PLAN, number: [0]}, 3, 5, number)
            self.refuses(read_net(LONELY), {**LONELY_PLAN, number: [1, 1, 1]}, 3, 5, number)

    def test_another_count_of_numbers(self):
        for many in (1, 3, 4, 5, 6):
            self.refuses(read_net(MIXING), MIXING_PLAN, many, 7, 0)
            self.refuses(read_net(MIXING), self.with_row(0, [1] * many), many, 7, 1)
        self.refuses(read_net(LONELY), LONELY_PLAN, 2, 5, 1)

    def test_as_many_as_are_sent_counts_for_the_house_alone(self):
        net = read_net("house home\npost a\nlistener bob" + "\ntie home a" * 3 + "\ntie a bob")
        rows = {0: [1, 1], 1: [1, 1], 2: [1, 1]}
        self.refuses(net, {**rows, 3: [1, 1]}, 2, 5, 3)
        self.assertEqual(checked_plan(net, {**rows, 3: [1, 1, 1]}, 2, 5)[3], [1, 1, 1])
        self.refuses(net, {0: [1, 1, 1], 1: [1, 1], 2: [1, 1], 3: [1, 1, 1]}, 2, 5, 0)

    def test_numbers_that_are_none_of_the_field(self):
        for number, row in MIXING_PLAN.items():
            for place in range(len(row)):
                for bad in (-1, -7, 7, 8, 14, 10 ** 30, -10 ** 30):
                    wrong = row[:place] + [bad] + row[place + 1:]
                    self.refuses(read_net(MIXING), self.with_row(number, wrong), 2, 7, number)

    def test_numbers_of_a_greater_prime(self):
        self.refuses(read_net(MIXING), MIXING_PLAN, 2, 5, 3)
        self.refuses(read_net(MIXING), MIXING_PLAN, 2, 2, 0)
        self.assertEqual(checked_plan(read_net(MIXING), MIXING_PLAN, 2, 11), MIXING_PLAN)

    def test_truths_are_no_numbers(self):
        for bad in (True, False):
            self.refuses(read_net(MIXING), self.with_row(3, [bad]), 2, 7, 3)
            self.refuses(read_net(MIXING), self.with_row(1, [1, bad]), 2, 7, 1)

    def test_several_at_once(self):
        net = read_net(MIXING)
        plan = self.without(8, 5)
        self.refuses(net, plan, 2, 7, 5)
        self.refuses(net, {**plan, 4: [1, 7]}, 2, 7, 4)
        self.refuses(net, {**plan, 6: [-1]}, 2, 7, 5)
        self.refuses(net, {**plan, 6: [-1], 4: [1]}, 2, 7, 4)
        self.refuses(net, {**self.without(4), 3: [1, 1], 2: [7]}, 2, 7, 2)
        self.refuses(net, turned({**self.without(4), 3: [1, 1], 2: [7]}), 2, 7, 2)
        self.refuses(net, {}, 2, 7, 0)
        self.refuses(net, {number: [9] * 9 for number in range(1, 9)}, 2, 7, 0)

    def test_the_least_tie_whatever_the_order_of_the_posts(self):
        net = read_net("listener bob\npost b\npost a\nhouse home\ntie b bob\ntie a b\ntie home a")
        good = {0: [1], 1: [1], 2: [1, 1]}
        for wrong in ((0, 1, 2), (0, 1), (0, 2), (1, 2), (2, 0), (2, 1)):
            for row in ([], [9]):
                self.refuses(net, {**good, **{number: row for number in wrong}}, 2, 5, min(wrong))
            left = {number: row for number, row in good.items() if number not in wrong}
            self.refuses(net, left, 2, 5, min(wrong))

    def test_ties_that_the_net_does_not_have(self):
        net = read_net(MIXING)
        for strange in ((9,), (12, 9, 40), (-1,), (9, -5, -4), (100, 99)):
            for row in ([], [1], [1, 1], [7]):
                self.refuses(net, {**MIXING_PLAN, **{number: row for number in strange}}, 2, 7, min(strange))
                self.refuses(net, {**{number: row for number in strange}, **MIXING_PLAN}, 2, 7, min(strange))

    def test_ties_that_a_net_without_ties_does_not_have(self):
        self.refuses(Net(), {0: []}, 1, 2, 0)
        self.refuses(read_net("house home\nlistener bob"), {7: [1], 3: [1]}, 1, 2, 3)

    def test_strange_ties_behind_the_net_s_own(self):
        net = read_net(MIXING)
        self.refuses(net, {-3: [], **self.without(8)}, 2, 7, 8)
        self.refuses(net, {-3: [], **self.with_row(8, [7])}, 2, 7, 8)
        self.refuses(net, {-3: [], 10: [1], **self.with_row(6, [])}, 2, 7, 6)

    def test_ties_that_were_cut_are_strange(self):
        net = cut_and_put_in_again()
        self.refuses(net, {**again_plan(), 2: [2]}, 2, 7, 2)
        self.refuses(net, {**again_plan(), 2: [2], 1: [1, 1]}, 2, 7, 2)
        self.refuses(net, {**again_plan(), 2: [2], 9: []}, 2, 7, 9)
        self.refuses(net, MIXING_PLAN, 2, 7, 9)
        net.cut_tie(9)
        self.refuses(net, again_plan(), 2, 7, 4)
        self.refuses(net, {**again_plan(), 4: [6]}, 2, 7, 9)

    def test_drawn_faults(self):
        for source, net, plan, many, prime in drawn_cases(52, 150):
            wrong = sorted(source.sample(sorted(plan), source.randrange(1, min(3, len(plan)) + 1)))
            for number in wrong:
                self.spoil_row(source, plan, number, prime)
            self.refuses(net, plan, many, prime, wrong[0])

    def spoil_row(self, source, plan, number, prime):
        way = source.randrange(4)
        if way == 0 or not plan[number]:
            plan.pop(number)
        elif way == 1:
            plan[number].append(0)
        elif way == 2:
            plan[number].pop()
        else:
            plan[number][source.randrange(len(plan[number]))] = source.choice((-1, prime, prime + 1))


class Carrying(unittest.TestCase):
    def test_what_ties_carry(self):
        net = read_net(MIXING)
        for fallen in (None, []):
            self.assertEqual(sent(net, MIXING_PLAN, [2, 5], 7, fallen), MIXING_SENT)
            self.assertEqual(carried(net, MIXING_PLAN, 2, 7, fallen), MIXING_ROWS)
        self.assertEqual(sent(net, MIXING_PLAN, [2, 5], 7), MIXING_SENT)
        self.assertEqual(carried(net, MIXING_PLAN, 2, 7), MIXING_ROWS)

    def test_another_prime(self):
        net = read_net(MIXING)
        expected = {0: 12, 1: 3, 2: 1, 3: 15, 4: 22, 5: 13, 6: 19, 7: 3, 8: 21}
        self.assertEqual(sent(net, MIXING_PLAN, [2, 5], 23), expected)

    def test_one_that_falls(self):
        net = read_net(MIXING)
        expected = {**MIXING_SENT, 3: 0, 4: 3, 6: 5, 8: 6}
        self.assertEqual(sent(net, MIXING_PLAN, [2, 5], 7, [3]), expected)
        expected = {**MIXING_ROWS, 3: [0, 0], 4: [2, 4], 6: [1, 2], 8: [4, 1]}
        self.assertEqual(carried(net, MIXING_PLAN, 2, 7, [3]), expected)

    def test_several_that_fall(self):
        net = read_net(MIXING)
        self.assertEqual(
            sent(net, MIXING_PLAN, [2, 5], 7, [0, 6, 8]), {0: 0, 1: 5, 2: 0, 3: 4, 4: 3, 5: 0, 6: 0, 7: 5, 8: 0}
        )
        self.assertEqual(
            carried(net, MIXING_PLAN, 2, 7, [0, 6, 8]),
            {0: [0, 0], 1: [3, 4], 2: [0, 0], 3: [1, 6], 4: [6, 1], 5: [0, 0], 6: [0, 0], 7: [3, 4], 8: [0, 0]},
        )
        every = list(range(9))
        self.assertEqual(sent(net, MIXING_PLAN, [2, 5], 7, every), dict.fromkeys(every, 0))
        self.assertEqual(carried(net, MIXING_PLAN, 2, 7, every), dict.fromkeys(every, [0, 0]))

    def test_posts_without_ties_into_them(self):
        net = read_net(LONELY)
        self.assertEqual(carried(net, LONELY_PLAN, 3, 5), LONELY_ROWS)
        self.assertEqual(sent(net, LONELY_PLAN, [1, 2, 4], 5), {0: 0, 1: 4, 2: 1, 3: 0, 4: 0, 5: 2})
        self.assertEqual(carried(net, LONELY_PLAN, 3, 5, [1]), {**LONELY_ROWS, 1: [0, 0, 0], 2: [0, 0, 0]})

    def test_without_a_house(self):
        net = read_net("post a\npost b\nlistener bob\ntie a b\ntie b bob\ntie a bob")
        plan = {0: [], 1: [3], 2: []}
        self.assertEqual(sent(net, plan, [4, 4], 5), {0: 0, 1: 0, 2: 0})
        self.assertEqual(carried(net, plan, 2, 5), {0: [0, 0], 1: [0, 0], 2: [0, 0]})

    def test_without_ties(self):
        for text in ("", "house home\nlistener bob"):
            self.assertEqual(sent(read_net(text), {}, [1, 0], 2), {})
            self.assertEqual(carried(read_net(text), {}, 2, 2), {})

    def test_ties_that_were_cut_and_put_in_again(self):
        expected = {number: row for number, row in MIXING_ROWS.items() if number != 2}
        expected[9] = [2, 4]
        for plan in (again_plan(), turned(again_plan())):
            told = carried(cut_and_put_in_again(), plan, 2, 7)
            self.assertEqual(told, expected)
            self.assertEqual(list(told), [0, 1, 3, 4, 5, 6, 7, 8, 9])
            told = sent(cut_and_put_in_again(), plan, [2, 5], 7)
            self.assertEqual(told, {0: 5, 1: 5, 3: 4, 4: 6, 5: 1, 6: 3, 7: 5, 8: 5, 9: 3})
            self.assertEqual(list(told), [0, 1, 3, 4, 5, 6, 7, 8, 9])

    def test_by_rising_ties_whatever_the_way_of_the_numbers(self):
        net = read_net("listener bob\npost b\npost a\nhouse home\ntie b bob\ntie a b\ntie home a\ntie a b\ntie home b")
        plan = {0: [1, 2, 3], 1: [4], 2: [2, 1], 3: [3], 4: [1, 1]}
        for handed in (plan, turned(plan)):
            told = carried(net, handed, 2, 5)
            self.assertEqual(list(told), [0, 1, 2, 3, 4])
            self.assertEqual(told, {0: [3, 3], 1: [3, 4], 2: [2, 1], 3: [1, 3], 4: [1, 1]})
            told = sent(net, handed, [1, 3], 5)
            self.assertEqual(list(told), [0, 1, 2, 3, 4])
            self.assertEqual(told, {0: 2, 1: 0, 2: 0, 3: 0, 4: 4})

    def test_one_to_six_numbers(self):
        net = read_net("house home\npost a\nlistener bob\ntie home a\ntie home a\ntie a bob")
        for many in range(1, 7):
            plan = {0: list(range(1, many + 1)), 1: [1] * many, 2: [1, 10]}
            rows = {0: list(range(1, many + 1)), 1: [1] * many, 2: [each + 10 for each in range(1, many + 1)]}
            self.assertEqual(carried(net, plan, many, 101), rows)
            message = [3] * many
            self.assertEqual(sent(net, plan, message, 101), {k: 3 * sum(row) % 101 for k, row in rows.items()})

    def test_drawn_nets_by_the_words(self):
        for source, net, plan, many, prime in drawn_cases(53, 150):
            for fallen in ([], drawn_fallen(source, net)):
                message = drawn_numbers(source, many, prime)
                told = sent(net, plan, message, prime, fallen)
                self.assertEqual(told, all_carry(net, plan, message, prime, fallen))
                self.assertEqual(list(told), sorted(plan))

    def test_each_tie_carries_its_row_times_the_message(self):
        for source, net, plan, many, prime in drawn_cases(54, 150):
            for fallen in (None, drawn_fallen(source, net)):
                rows = carried(net, plan, many, prime, fallen)
                self.assertEqual(list(rows), sorted(plan))
                self.assertTrue(all(len(row) == many for row in rows.values()))
                self.assertTrue(all(0 <= number < prime for row in rows.values() for number in row))
                message = drawn_numbers(source, many, prime)
                told = {k: sum(a * b for a, b in zip(row, message)) % prime for k, row in rows.items()}
                self.assertEqual(sent(net, plan, message, prime, fallen), told)
                self.assertEqual(all_carry(net, plan, message, prime, fallen or []), told)
                for number in fallen or []:
                    self.assertEqual(rows[number], [0] * many)

    def test_a_long_row_of_posts(self):
        names = ["home"] + ["n" + sign for sign in "abcdefghijklmnopqrs"]
        posts = ["post " + name for name in reversed(names[1:])]
        ties = [f"tie {one} {other}" for one, other in zip(names, names[1:]) for turn in range(2)]
        net = read_net("\n".join(posts + ["house home"] + list(reversed(ties))))
        plan = {number: [1, 1] for number in range(38)}
        self.assertEqual(sent(net, plan, [1, 0], 999983)[0], 2 ** 18 % 999983)
        self.assertEqual(carried(net, plan, 2, 999983)[1], [2 ** 18 % 999983] * 2)


class Hearing(unittest.TestCase):
    def test_each_listener(self):
        net = read_net(MIXING)
        self.assertEqual(heard(net, MIXING_PLAN, 2, 7, "x"), [[3, 6], [4, 6]])
        self.assertEqual(heard(net, MIXING_PLAN, 2, 7, "y"), [[3, 4], [2, 3]])
        for fallen in (None, []):
            self.assertEqual(heard(net, MIXING_PLAN, 2, 7, "x", fallen), [[3, 6], [4, 6]])
        self.assertEqual(heard(net, MIXING_PLAN, 2, 7, "x", [3]), [[3, 6], [1, 2]])
        self.assertEqual(heard(net, MIXING_PLAN, 2, 7, "y", [7]), [[0, 0], [2, 3]])

    def test_listeners_that_send_on_and_one_that_hears_nothing(self):
        net = read_net(LONELY)
        self.assertEqual(heard(net, LONELY_PLAN, 3, 5, "al"), [[0, 0, 0], [2, 3, 4]])
        self.assertEqual(heard(net, LONELY_PLAN, 3, 5, "bob"), [[3, 2, 1], [0, 0, 0], [0, 0, 0], [1, 0, 4]])
        self.assertEqual(heard(net, LONELY_PLAN, 3, 5, "idle"), [])

    def test_in_the_order_of_the_numbers(self):
        net = read_net("house home\npost a\nlistener bob\ntie home bob\ntie home a\ntie a bob\ntie home bob")
        net.cut_tie(0)
        self.assertEqual(net.tie("home", "bob"), 4)
        plan = {4: [4, 0], 3: [3, 1], 2: [2], 1: [1, 1]}
        self.assertEqual(heard(net, plan, 2, 5, "bob"), [[2, 2], [3, 1], [4, 0]])

    def test_drawn_nets(self):
        for source, net, plan, many, prime in drawn_cases(55, 60):
            fallen = drawn_fallen(source, net)
            rows = carried(net, plan, many, prime, fallen)
            for listener in net.listeners():
                expected = [rows[number] for number in ties_into(net, listener)]
                self.assertEqual(heard(net, plan, many, prime, listener, fallen), expected)

    def test_names_that_are_no_listeners(self):
        net = read_net(MIXING)
        for name in ("home", "a", "d", "z", "", "X", "xx"):
            for fallen in (None, [], [3]):
                with self.assertRaises(PostError) as taken:
                    heard(net, MIXING_PLAN, 2, 7, name, fallen)
                self.assertIs(taken.exception.__class__, NoPost)
                self.assertEqual(taken.exception.name, name)
        with self.assertRaises(NoPost):
            heard(Net(), {}, 1, 2, "bob")


class Kept(unittest.TestCase):
    """[0.2]: what is handed in stays, what is told is the asker's own, and asked again the same is told."""

    def asked(self, ask, net, plan, handed, fallen):
        kept = copy.deepcopy((plan, handed, fallen))
        text = net_text(net)
        first = ask(net, plan, handed, fallen)
        same = copy.deepcopy(first)
        self.assertFalse(shared(first, [plan, handed, fallen]))
        self.assertFalse(shared(first, ask(net, plan, handed, fallen)))
        lists = [id(row) for row in (first.values() if isinstance(first, dict) else first) if isinstance(row, list)]
        self.assertEqual(len(set(lists)), len(lists))
        spoil(first)
        self.assertEqual((plan, handed, fallen), kept)
        self.assertEqual(list(plan), list(kept[0]))
        self.assertEqual(net_text(net), text)
        again = ask(net, plan, handed, fallen)
        self.assertEqual(again, same)
        spoil(plan)
        self.assertEqual(again, same)

    def test_told_again(self):
        for fallen in (None, [], [3], [0, 4, 8]):
            net = read_net(MIXING)
            for plan in (copy.deepcopy(MIXING_PLAN), turned(copy.deepcopy(MIXING_PLAN))):
                self.asked(lambda *a: sent(a[0], a[1], a[2], 7, a[3]), net, copy.deepcopy(plan), [2, 5], fallen)
                self.asked(lambda *a: carried(a[0], a[1], a[2], 7, a[3]), net, copy.deepcopy(plan), 2, fallen)
                self.asked(lambda *a: heard(a[0], a[1], 2, 7, a[2], a[3]), net, copy.deepcopy(plan), "x", fallen)

    def test_what_was_told_stays_behind_a_change_of_the_net(self):
        net = read_net(MIXING)
        told = [sent(net, MIXING_PLAN, [2, 5], 7), carried(net, MIXING_PLAN, 2, 7), heard(net, MIXING_PLAN, 2, 7, "y")]
        net.cut_tie(8)
        net.tie("home", "y")
        self.assertEqual(told, [MIXING_SENT, MIXING_ROWS, [[3, 4], [2, 3]]])


if __name__ == "__main__":
    unittest.main()
