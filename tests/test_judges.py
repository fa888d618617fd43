"""The judge [6.1], what it refuses [6.2], [1.1] and [0.2] for it."""

import copy
import itertools
import random
import unittest

from carrying import comes_to, lists_within, shared, spoil, ties_into
from drawing import drawn_fallen, drawn_net, drawn_plan, drawn_size
from mixposts.errors import NoPlan, NoPrime, PostError
from mixposts.judges import judged
from mixposts.nets import Net
from mixposts.plans import checked_plan, heard
from mixposts.primes import Field
from mixposts.reading import net_text, read_net
from mixposts.tables import ones, product

NO_PRIMES = (-3, 0, 1, 4, 9, 561, 999999, 1000000, 1000003)
MIXING = (
    "house home\npost a\npost b\npost c\npost d\nlistener y\nlistener x\n"
    "tie home a\ntie home b\ntie a c\ntie b c\ntie c d\ntie a x\ntie d x\ntie b y\ntie d y"
)
# By this plan x hears (1, 0) and (1, 1), and y hears (0, 1) and (1, 1).
MIXING_PLAN = {0: [1, 0], 1: [0, 1], 2: [1], 3: [1], 4: [1, 1], 5: [1], 6: [1], 7: [1], 8: [1]}


def plain_ones(many):
    return [[int(place == own) for place in range(many)] for own in range(many)]


def times(prime, table, row):
    return [sum(mine * theirs for mine, theirs in zip(line, row, strict=True)) % prime for line in table]


def table_by_the_words(net, plan, many, prime, fallen, listener):
    """What the listener hears, out of what comes to it of the messages with a single 1."""
    columns = [comes_to(net, plan, message, prime, fallen, listener) for message in plain_ones(many)]
    return [list(row) for row in zip(*columns)]


def straight(many_ties):
    return read_net("house home\nlistener bob" + "\ntie home bob" * many_ties)


class Judging(unittest.TestCase):
    def asked(self, net, plan, many, prime, fallen=None):
        """What is told of each listener, in short, when all of it is as it should be."""
        told = judged(net, plan, many, prime, fallen)
        self.assertIs(told.__class__, dict)
        self.assertEqual(list(told), net.listeners())
        for listener, judgement in told.items():
            self.assertIs(judgement.__class__, tuple)
            if judgement[0] == "reads":
                self.reads(net, plan, many, prime, fallen or [], listener, judgement)
            else:
                self.are_alike(net, plan, many, prime, fallen or [], listener, judgement)
        return {listener: judgement[0] for listener, judgement in told.items()}

    def is_row(self, row, length, prime):
        self.assertIs(row.__class__, list)
        self.assertEqual(len(row), length)
        for number in row:
            self.assertIs(number.__class__, int)
            self.assertTrue(0 <= number < prime)

    def reads(self, net, plan, many, prime, fallen, listener, judgement):
        self.assertEqual(len(judgement), 2)
        table = judgement[1]
        self.assertIs(table.__class__, list)
        self.assertEqual(len(table), many)
        for row in table:
            self.is_row(row, len(ties_into(net, listener)), prime)
        self.assertEqual(product(Field(prime), table, heard(net, plan, many, prime, listener, fallen)), ones(many))
        hears = table_by_the_words(net, plan, many, prime, fallen, listener)
        for message in plain_ones(many) + [[prime - 1] * many, [number % prime for number in range(many)]]:
            self.assertEqual(times(prime, table, times(prime, hears, message)), message)

    def are_alike(self, net, plan, many, prime, fallen, listener, judgement):
        self.assertEqual(judgement[0], "alike")
        self.assertEqual(len(judgement), 3)
        one, other = judgement[1:]
        self.is_row(one, many, prime)
        self.is_row(other, many, prime)
        self.assertNotEqual(one, other)
        self.assertEqual(
            comes_to(net, plan, one, prime, fallen, listener), comes_to(net, plan, other, prime, fallen, listener)
        )


class ToldNets(Judging):
    def test_all_read(self):
        for prime in (2, 3, 7, 999983):
            told = self.asked(read_net(MIXING), MIXING_PLAN, 2, prime)
            self.assertEqual(told, {"y": "reads", "x": "reads"})
            self.assertEqual(list(told), ["y", "x"])

    def test_the_table_of_as_many_ties_as_numbers_is_the_only_one(self):
        told = judged(read_net(MIXING), MIXING_PLAN, 2, 7)
        self.assertEqual(told, {"x": ("reads", [[1, 0], [6, 1]]), "y": ("reads", [[6, 1], [1, 0]])})

    def test_both_kinds_in_one_net(self):
        plan = {**MIXING_PLAN, 4: [1, 0]}
        self.assertEqual(self.asked(read_net(MIXING), plan, 2, 7), {"y": "reads", "x": "alike"})
        plan = {**MIXING_PLAN, 4: [0, 1]}
        self.assertEqual(self.asked(read_net(MIXING), plan, 2, 7), {"y": "alike", "x": "reads"})

    def test_none_reads(self):
        plan = {**MIXING_PLAN, 4: [0, 0]}
        self.assertEqual(self.asked(read_net(MIXING), plan, 2, 7), {"y": "alike", "x": "alike"})
        nothing = {number: [0] * len(row) for number, row in MIXING_PLAN.items()}
        self.assertEqual(self.asked(read_net(MIXING), nothing, 2, 7), {"y": "alike", "x": "alike"})

    def test_a_number_that_is_no_nought_in_one_prime_alone(self):
        net = straight(2)
        plan = {0: [1, 2], 1: [3, 1]}
        self.assertEqual(self.asked(net, plan, 2, 5), {"bob": "alike"})
        self.assertEqual(self.asked(net, plan, 2, 7), {"bob": "reads"})
        self.assertEqual(self.asked(net, {0: [1, 1], 1: [1, 2]}, 2, 3), {"bob": "reads"})

    def test_with_ties_fallen(self):
        net = read_net(MIXING)
        for fallen in ([], None):
            self.assertEqual(self.asked(net, MIXING_PLAN, 2, 2, fallen), {"y": "reads", "x": "reads"})
        self.assertEqual(self.asked(net, MIXING_PLAN, 2, 5, [3]), {"y": "reads", "x": "alike"})
        self.assertEqual(self.asked(net, MIXING_PLAN, 2, 5, [2]), {"y": "alike", "x": "reads"})
        self.assertEqual(self.asked(net, MIXING_PLAN, 2, 5, [5]), {"y": "reads", "x": "alike"})
        self.assertEqual(self.asked(net, MIXING_PLAN, 2, 5, [2, 5, 7]), {"y": "alike", "x": "alike"})
        self.assertEqual(self.asked(net, MIXING_PLAN, 2, 5, list(range(9))), {"y": "alike", "x": "alike"})

    def test_a_tie_to_spare(self):
        net = straight(3)
        plan = {0: [1, 0], 1: [0, 1], 2: [1, 1]}
        for fallen in ([0], [1], [2], []):
            self.assertEqual(self.asked(net, plan, 2, 2, fallen), {"bob": "reads"})
        for fallen in ([0, 1], [0, 2], [1, 2], [0, 1, 2]):
            self.assertEqual(self.asked(net, plan, 2, 2, fallen), {"bob": "alike"})

    def test_more_and_fewer_ties_than_numbers(self):
        for many in range(1, 7):
            for ties in range(1, 10):
                net = straight(ties)
                rows = plain_ones(many) * 9
                plan = {number: rows[number] for number in range(ties)}
                for prime in (2, 3, 999983):
                    expected = "reads" if ties >= many else "alike"
                    self.assertEqual(self.asked(net, plan, many, prime), {"bob": expected})

    def test_many_ties_that_carry_the_same(self):
        net = straight(40)
        self.assertEqual(self.asked(net, {number: [1, 2] for number in range(40)}, 2, 7), {"bob": "alike"})
        self.assertEqual(self.asked(net, {number: [5] for number in range(40)}, 1, 7), {"bob": "reads"})
        plan = {number: [1, 2] for number in range(40)}
        plan[37] = [1, 3]
        self.assertEqual(self.asked(net, plan, 2, 7), {"bob": "reads"})
        self.assertEqual(self.asked(net, plan, 2, 7, [37]), {"bob": "alike"})

    def test_forty_ties_and_six_numbers(self):
        source = random.Random(61)
        plan = drawn_plan(source, straight(40), 6, 999983)
        self.assertEqual(self.asked(straight(40), plan, 6, 999983), {"bob": "reads"})

    def test_a_listener_without_ties_into_it(self):
        net = read_net("listener idle\nhouse home\nlistener bob\ntie home bob\ntie idle bob\ntie home bob")
        for prime in (2, 999983):
            told = self.asked(net, {0: [1, 0], 1: [], 2: [1, 1]}, 2, prime)
            self.assertEqual(told, {"idle": "alike", "bob": "reads"})
        self.assertEqual(self.asked(read_net("listener bob\nhouse home"), {}, 6, 2), {"bob": "alike"})

    def test_without_a_house(self):
        net = read_net("post a\nlistener al\nlistener bob\ntie a al\ntie al bob\ntie a bob")
        for many in range(1, 7):
            told = self.asked(net, {0: [], 1: [1], 2: []}, many, 3)
            self.assertEqual(told, {"al": "alike", "bob": "alike"})
        self.assertEqual(self.asked(read_net("listener bob"), {}, 1, 2), {"bob": "alike"})

    def test_without_listeners(self):
        self.assertEqual(judged(Net(), {}, 1, 2), {})
        self.assertEqual(judged(read_net("house home\npost a\ntie home a"), {0: [1, 1]}, 2, 2), {})

    def test_a_listener_that_sends_on(self):
        net = read_net("house home\nlistener bob\nlistener al\ntie home al\ntie home al\ntie al bob\ntie al bob")
        plan = {0: [1, 1], 1: [1, 2], 2: [1, 0], 3: [1, 2]}
        self.assertEqual(self.asked(net, plan, 2, 3), {"bob": "reads", "al": "reads"})
        self.assertEqual(self.asked(net, plan, 2, 3, [2]), {"bob": "alike", "al": "reads"})
        self.assertEqual(self.asked(net, plan, 2, 3, [0]), {"bob": "alike", "al": "alike"})

    def test_ties_that_were_cut_and_put_in_again(self):
        net = read_net(MIXING)
        net.cut_tie(5)
        self.assertEqual(net.tie("a", "x"), 9)
        plan = {number: row for number, row in MIXING_PLAN.items() if number != 5}
        plan[9] = [1]
        self.assertEqual(self.asked(net, plan, 2, 7), {"y": "reads", "x": "reads"})
        self.assertEqual(judged(net, plan, 2, 7)["x"], ("reads", [[0, 1], [1, 6]]))

    def test_what_is_told_hangs_on_what_is_heard_alone(self):
        near = straight(3)
        far = read_net(
            "post b\nlistener bob\npost a\nhouse home\ntie home a\ntie home a\ntie a b\ntie a b\ntie b bob\ntie b bob\n"
            "tie home bob"
        )
        for rows in itertools.product(itertools.product(range(3), repeat=2), repeat=3):
            plan = {number: list(row) for number, row in enumerate(rows)}
            other = {0: [1, 0], 1: [0, 1], 2: list(rows[0]), 3: list(rows[1]), 4: [1, 0], 5: [0, 1], 6: list(rows[2])}
            self.assertEqual(judged(near, plan, 2, 3), judged(far, other, 2, 3))


class DrawnNets(Judging):
    """Both things can't be there of one listener, so what is told, looked over, needs no other judge."""

    def drawn(self, seed, primes, turns):
        source = random.Random(seed)
        seen = {"reads": 0, "alike": 0}
        for turn in range(turns):
            net = drawn_net(source, *drawn_size(source, 20, 40), house=turn % 10 != 9)
            many = source.choice((1, 1, 2, 2, 3, 4, 5, 6))
            prime = source.choice(primes)
            plan = drawn_plan(source, net, many, prime)
            for fallen in (None, drawn_fallen(source, net)):
                for told in self.asked(net, plan, many, prime, fallen).values():
                    seen[told] += 1
        # Either kind is to come often enough.
        self.assertGreater(min(seen.values()), turns // 10, seen)

    def test_small_primes(self):
        self.drawn(62, (2, 3, 5), 120)

    def test_great_primes(self):
        self.drawn(63, (101, 999983), 120)

    def test_reads_where_unlike_messages_come_unlike(self):
        source = random.Random(64)
        for turn in range(120):
            net = drawn_net(source, *drawn_size(source, 7, 14))
            prime = source.choice((2, 3))
            many = source.choice((1, 2, 3))
            plan = drawn_plan(source, net, many, prime)
            fallen = drawn_fallen(source, net)
            told = self.asked(net, plan, many, prime, fallen)
            for listener in net.listeners():
                every = list(itertools.product(range(prime), repeat=many))
                come = {tuple(comes_to(net, plan, message, prime, fallen, listener)) for message in every}
                self.assertEqual(told[listener] == "reads", len(come) == len(every))


class Refused(unittest.TestCase):
    def refused(self, ask, net, plan, many, prime):
        with self.assertRaises(PostError) as taken:
            ask(net, plan, many, prime)
        return taken.exception

    def test_no_prime(self):
        for prime in NO_PRIMES:
            for plan in (MIXING_PLAN, {}, {**MIXING_PLAN, 3: []}, {**MIXING_PLAN, 3: [prime]}, {**MIXING_PLAN, 9: [1]}):
                self.assertIs(self.refused(judged, read_net(MIXING), plan, 2, prime).__class__, NoPrime)
            self.assertIs(self.refused(judged, Net(), {}, 1, prime).__class__, NoPrime)
            self.assertIs(self.refused(judged, Net(), {0: []}, 1, prime).__class__, NoPrime)

    def test_no_plan(self):
        wrong = [({number: row for number, row in MIXING_PLAN.items() if number != left}, left) for left in range(9)]
        wrong += [({**MIXING_PLAN, number: row + [0]}, number) for number, row in MIXING_PLAN.items()]
        wrong += [({**MIXING_PLAN, number: row[:-1]}, number) for number, row in MIXING_PLAN.items()]
        for bad in (-1, 5, 6):
            wrong += [({**MIXING_PLAN, number: row[:-1] + [bad]}, number) for number, row in MIXING_PLAN.items()]
        wrong += [({**MIXING_PLAN, 12: [], 10: [], -1: []}, -1), ({**MIXING_PLAN, 12: [], 10: []}, 10)]
        wrong += [({**MIXING_PLAN, -1: [], 8: [5]}, 8), ({**MIXING_PLAN, 8: [5], 2: []}, 2), ({}, 0)]
        for plan, number in wrong:
            net = read_net(MIXING)
            kept = copy.deepcopy(plan)
            for fallen in (None, [], [number]):
                with self.assertRaises(PostError) as taken:
                    judged(net, plan, 2, 5, fallen)
                self.assertIs(taken.exception.__class__, NoPlan)
                self.assertEqual(taken.exception.number, number)
            self.assertEqual(self.refused(checked_plan, net, plan, 2, 5).number, number)
            self.assertEqual((plan, net_text(net)), (kept, MIXING))

    def test_no_plan_without_listeners(self):
        net = read_net("house home\npost a\ntie home a")
        self.assertEqual(self.refused(judged, net, {0: [1]}, 2, 5).number, 0)
        self.assertEqual(self.refused(judged, Net(), {3: [1]}, 2, 5).number, 3)

    def test_no_plan_for_another_count(self):
        for many in (1, 3, 6):
            self.assertEqual(self.refused(judged, read_net(MIXING), MIXING_PLAN, many, 5).number, 0)


class Kept(unittest.TestCase):
    """[0.2]: what is handed in stays, what is told is the asker's own, and asked again the same is told."""

    def test_told_again(self):
        source = random.Random(65)
        for turn in range(40):
            net = drawn_net(source, *drawn_size(source, 12, 30))
            prime = source.choice((2, 7, 999983))
            plan = drawn_plan(source, net, 2, prime)
            for fallen in (None, [], drawn_fallen(source, net)):
                self.told_again(net, plan, prime, fallen)

    def told_again(self, net, plan, prime, fallen):
        kept = copy.deepcopy((plan, fallen))
        text = net_text(net)
        first = judged(net, plan, 2, prime, fallen)
        same = copy.deepcopy(first)
        own = [id(found) for found in lists_within(first)]
        self.assertEqual(len(set(own)), len(own))
        self.assertFalse(shared(first, [plan, fallen]))
        self.assertFalse(shared(first, judged(net, plan, 2, prime, fallen)))
        spoil(first)
        self.assertEqual(((plan, fallen), net_text(net)), (kept, text))
        self.assertEqual(list(plan), list(kept[0]))
        self.assertEqual(judged(net, plan, 2, prime, fallen), same)
        turned = {number: list(plan[number]) for number in sorted(plan, reverse=True)}
        self.assertEqual(judged(net, turned, 2, prime, fallen), same)

    def test_changes_behind_the_call(self):
        net = read_net(MIXING)
        plan = copy.deepcopy({**MIXING_PLAN, 4: [1, 0]})
        told = judged(net, plan, 2, 7)
        same = copy.deepcopy(told)
        spoil(plan)
        net.cut_tie(8)
        self.assertEqual(told, same)


if __name__ == "__main__":
    unittest.main()
