"""Rounds under way [9.1], what is read and when [9.2], lateness [9.3], and [0.2] for these."""

import copy
import heapq
import random
import unittest

from carrying import all_carry, lists_within, shared, spoil, ties_into, who_reads
from drawing import drawn_net, drawn_numbers, drawn_plan, drawn_rich_net, drawn_size
from mixposts.errors import NoPlan, NoPrime, PostError
from mixposts.makers import plan_for
from mixposts.nets import Net
from mixposts.reading import net_text, read_net
from mixposts.rounds import lateness, run

NO_PRIMES = (-7, 0, 1, 4, 9, 561, 999999, 1000000, 1000003)
# Ways of unlike lengths, ties of unlike delays; y stands ahead of x.
MIXING = (
    "listener y\nlistener x\nhouse home\npost a\npost b\npost c\npost d\n"
    "tie home a 3\ntie home b\ntie a c 2\ntie b c 9\ntie c d\ntie a x 4\ntie d x 2\ntie b y\ntie d y 5"
)
# By this plan x hears (1, 0) and (1, 1), and y hears (0, 1) and (1, 1).
MIXING_PLAN = {0: [1, 0], 1: [0, 1], 2: [1], 3: [1], 4: [1, 1], 5: [1], 6: [1], 7: [1], 8: [1]}
MIXING_LATE = {"home": 0, "a": 3, "b": 1, "c": 10, "d": 11, "y": 16, "x": 13}


def came_in(net, plan, prime, messages):
    """By the words of [9.1], tick by tick: of each listener and round when all has come in, and what."""
    waiting = []
    arrived = {}
    told = {}

    def all_in(time, name, turn):
        came = [arrived[name, turn][number] for number in ties_into(net, name)] if ties_into(net, name) else []
        told[name, turn] = (time, came)
        for number, one, other, delay in net.ties():
            if one == name:
                comes = messages[turn] if name == net.home() else came
                value = sum(a * b for a, b in zip(plan[number], comes, strict=True)) % prime
                heapq.heappush(waiting, (time + delay, turn, number, other, value))

    for turn in range(len(messages)):
        for name in net.names():
            if not ties_into(net, name):
                all_in(turn, name, turn)
    while waiting:
        time, turn, number, other, value = heapq.heappop(waiting)
        arrived.setdefault((other, turn), {})[number] = value
        if len(arrived[other, turn]) == len(ties_into(net, other)):
            all_in(time, other, turn)
    return told


class Running(unittest.TestCase):
    def asked(self, net, plan, many, prime, messages):
        """What is told, when it is what the words ask for."""
        kept = net_text(net), copy.deepcopy(plan), copy.deepcopy(messages)
        told = run(net, plan, many, prime, messages)
        self.assertEqual((net_text(net), plan, messages), kept)
        self.assertIs(told.__class__, list)
        listeners = net.listeners()
        reading = who_reads(net, plan, many, prime, [])
        expected = []
        came = came_in(net, plan, prime, messages)
        for turn, message in enumerate(messages):
            carries = all_carry(net, plan, message, prime, [])
            for listener in listeners:
                time, values = came[listener, turn]
                self.assertEqual(values, [carries[number] for number in ties_into(net, listener)])
                expected.append((time, listener, turn, message if listener in reading else None))
        expected = sorted(expected, key=lambda found: (found[0], listeners.index(found[1]), found[2]))
        self.assertEqual(told, expected)
        for found in told:
            self.assertIs(found.__class__, tuple)
            self.assertEqual([part.__class__ for part in found[:3]], [int, str, int])
            if found[3] is not None:
                self.assertIs(found[3].__class__, list)
                self.assertEqual({number.__class__ for number in found[3]}, {int})
        return told


class ToldRounds(Running):
    def test_none(self):
        self.assertEqual(run(read_net(MIXING), MIXING_PLAN, 2, 7, []), [])
        self.assertEqual(run(Net(), {}, 1, 2, []), [])

    def test_one(self):
        told = self.asked(read_net(MIXING), MIXING_PLAN, 2, 7, [[4, 6]])
        self.assertEqual(told, [(13, "x", 0, [4, 6]), (16, "y", 0, [4, 6])])

    def test_several(self):
        told = self.asked(read_net(MIXING), MIXING_PLAN, 2, 7, [[4, 6], [0, 0], [1, 0], [6, 6], [4, 6]])
        self.assertEqual(told, [
            (13, "x", 0, [4, 6]), (14, "x", 1, [0, 0]), (15, "x", 2, [1, 0]), (16, "y", 0, [4, 6]),
            (16, "x", 3, [6, 6]), (17, "y", 1, [0, 0]), (17, "x", 4, [4, 6]), (18, "y", 2, [1, 0]),
            (19, "y", 3, [6, 6]), (20, "y", 4, [4, 6]),
        ])

    def test_twenty(self):
        source = random.Random(91)
        for prime in (2, 7, 999983):
            messages = [drawn_numbers(source, 2, prime) for turn in range(20)]
            told = self.asked(read_net(MIXING), MIXING_PLAN, 2, prime, messages)
            self.assertEqual(len(told), 40)
            self.assertEqual([message for time, name, turn, message in told if name == "x"], messages)
            self.assertEqual([message for time, name, turn, message in told if name == "y"], messages)

    def test_the_listeners_order_is_that_of_putting_in(self):
        """At one time neither the names' order nor that in which the posts are reached counts."""
        net = read_net("listener m\nlistener z\nlistener b\nhouse home\ntie home b\ntie home z\ntie home m\ntie b m")
        told = self.asked(net, {0: [1], 1: [1], 2: [1], 3: [1]}, 1, 5, [[3], [2]])
        self.assertEqual(told, [
            (1, "z", 0, [3]), (1, "b", 0, [3]), (2, "m", 0, [3]), (2, "z", 1, [2]), (2, "b", 1, [2]), (3, "m", 1, [2]),
        ])

    def test_delays_alike(self):
        for delay in (1, 2, 99):
            net = read_net(f"house home\nlistener bob\ntie home bob {delay}\ntie home bob {delay}")
            told = self.asked(net, {0: [1, 2], 1: [3, 4]}, 2, 5, [[1, 2], [3, 4]])
            self.assertEqual(told, [(delay, "bob", 0, [1, 2]), (delay + 1, "bob", 1, [3, 4])])

    def test_delays_unlike(self):
        net = read_net("house home\nlistener bob\ntie home bob 99\ntie home bob\ntie home bob 50")
        told = self.asked(net, {0: [1, 0], 1: [0, 1], 2: [1, 1]}, 2, 5, [[1, 2], [3, 4], [2, 2]])
        self.assertEqual(told, [(99, "bob", 0, [1, 2]), (100, "bob", 1, [3, 4]), (101, "bob", 2, [2, 2])])

    def test_a_tie_that_is_not_needed_is_waited_for(self):
        net = read_net("house home\nlistener bob\npost idle\ntie home bob\ntie idle bob 7")
        self.assertEqual(self.asked(net, {0: [1], 1: []}, 1, 5, [[3]]), [(7, "bob", 0, [3])])
        net = read_net("house home\nlistener bob\ntie home bob\ntie home bob 7")
        self.assertEqual(self.asked(net, {0: [2], 1: [0]}, 1, 5, [[3]]), [(7, "bob", 0, [3])])

    def test_a_listener_that_sends_on(self):
        net = read_net("listener far\nlistener near\nhouse home\ntie home near 4\ntie near far 3\ntie home far")
        told = self.asked(net, {0: [2], 1: [1], 2: [3]}, 1, 7, [[5], [6]])
        self.assertEqual(told, [(4, "near", 0, [5]), (5, "near", 1, [6]), (7, "far", 0, [5]), (8, "far", 1, [6])])

    def test_posts_and_listeners_without_ties_into_them(self):
        net = read_net(
            "listener lone\nhouse home\npost idle\nlistener bob\nlistener far\ntie idle far 2\ntie home bob 3\n"
            "tie lone bob\ntie idle bob"
        )
        plan = {0: [], 1: [1], 2: [], 3: []}
        told = self.asked(net, plan, 1, 3, [[2], [1]])
        self.assertEqual(told, [
            (0, "lone", 0, None), (1, "lone", 1, None), (2, "far", 0, None), (3, "bob", 0, [2]), (3, "far", 1, None),
            (4, "bob", 1, [1]),
        ])

    def test_a_listener_that_can_not_read(self):
        plan = {**MIXING_PLAN, 4: [1, 0]}
        told = self.asked(read_net(MIXING), plan, 2, 7, [[4, 6], [1, 1]])
        self.assertEqual(told, [(13, "x", 0, None), (14, "x", 1, None), (16, "y", 0, [4, 6]), (17, "y", 1, [1, 1])])
        nothing = {number: [0] * len(row) for number, row in MIXING_PLAN.items()}
        told = self.asked(read_net(MIXING), nothing, 2, 7, [[0, 0]])
        self.assertEqual(told, [(13, "x", 0, None), (16, "y", 0, None)])

    def test_without_a_house(self):
        net = read_net("post a\nlistener bob\nlistener al\ntie a bob 5\ntie bob al 6")
        told = self.asked(net, {0: [], 1: [1]}, 2, 3, [[1, 1], [2, 2]])
        self.assertEqual([found[3] for found in told], [None] * 4)
        self.assertEqual([found[0] for found in told], [5, 6, 11, 12])

    def test_without_listeners(self):
        self.assertEqual(run(Net(), {}, 1, 2, [[1], [0]]), [])
        self.assertEqual(run(read_net("house home\npost a\ntie home a"), {0: [1]}, 1, 2, [[1], [0]]), [])

    def test_one_to_six_numbers(self):
        source = random.Random(92)
        for many in range(1, 7):
            lines = [f"tie home bob {source.randrange(1, 100)}" for turn in range(many + 1)]
            net = read_net("\n".join(["house home", "listener bob"] + lines))
            for prime in (2, 11, 999983):
                messages = [drawn_numbers(source, many, prime) for turn in range(5)]
                told = self.asked(net, plan_for(net, many, prime), many, prime, messages)
                self.assertEqual([found[3] for found in told], messages)

    def test_later_messages_change_nothing(self):
        source = random.Random(93)
        for turn in range(20):
            net = drawn_rich_net(source, source.randrange(2, 10), 2)
            plan = plan_for(net, 2, 101)
            messages = [drawn_numbers(source, 2, 101) for turn in range(6)]
            every = run(net, plan, 2, 101, messages)
            for many in range(6):
                early = [found for found in every if found[2] < many]
                self.assertEqual(run(net, plan, 2, 101, messages[:many]), early)
                other = [found for found in run(net, plan, 2, 101, messages[:many] + [[9, 9]] * 3) if found[2] < many]
                self.assertEqual(other, early)

    def test_drawn_plans(self):
        source = random.Random(94)
        for turn in range(120):
            net = drawn_net(source, *drawn_size(source, 20, 40), house=turn % 10 != 9)
            many = source.choice((1, 1, 2, 3))
            prime = source.choice((2, 3, 101, 999983))
            plan = drawn_plan(source, net, many, prime)
            messages = [drawn_numbers(source, many, prime) for turn in range(source.choice((0, 1, 3, 20)))]
            self.asked(net, plan, many, prime, messages)

    def test_drawn_plans_that_were_made(self):
        source = random.Random(95)
        for turn in range(60):
            width = source.randrange(1, 5)
            net = drawn_rich_net(source, source.randrange(2, 8), width, idle=turn % 3)
            many = source.randrange(1, width + 1)
            messages = [drawn_numbers(source, many, 11) for turn in range(source.randrange(0, 9))]
            told = self.asked(net, plan_for(net, many, 11), many, 11, messages)
            self.assertEqual(len(told), len(messages) * len(net.listeners()))
            self.assertTrue(all(message == messages[turn] for time, name, turn, message in told))


class Lateness(unittest.TestCase):
    def late(self, net):
        told = lateness(net)
        self.assertIs(told.__class__, dict)
        self.assertEqual(list(told), net.ordered())
        self.assertEqual({number.__class__ for number in told.values()} - {int}, set())
        return told

    def test_by_hand(self):
        self.assertEqual(self.late(read_net(MIXING)), MIXING_LATE)
        self.assertEqual(list(self.late(read_net(MIXING))), ["home", "a", "b", "c", "d", "y", "x"])

    def test_nothing(self):
        self.assertEqual(self.late(Net()), {})
        self.assertEqual(list(lateness(read_net("post b\nlistener a\nhouse home")).items()),
                         [("b", 0), ("a", 0), ("home", 0)])

    def test_put_in_against_the_ties(self):
        posts = "post c\npost b\npost a\nhouse home\n"
        net = read_net(posts + "tie b c 5\ntie a b 7\ntie home a 11\ntie home c 99\ntie a c")
        self.assertEqual(list(self.late(net).items()), [("home", 0), ("a", 11), ("b", 18), ("c", 99)])
        net.cut_tie(3)
        self.assertEqual(list(self.late(net).items()), [("home", 0), ("a", 11), ("b", 18), ("c", 23)])

    def test_posts_without_ties_into_them(self):
        net = read_net("post a\nlistener bob\nlistener lone\nhouse home\ntie a bob 9\ntie lone bob 2\ntie home bob")
        self.assertEqual(list(self.late(net).items()), [("a", 0), ("lone", 0), ("home", 0), ("bob", 9)])
        net = read_net("post a\npost b\ntie a b 4")
        self.assertEqual(self.late(net), {"a": 0, "b": 4})

    def test_the_greatest_of_several_ties(self):
        for delays in ((1, 2, 3), (3, 2, 1), (2, 3, 1), (3, 3, 3), (99, 1, 98)):
            lines = [f"tie home bob {delay}" for delay in delays]
            self.assertEqual(self.late(read_net("\n".join(["house home", "listener bob"] + lines)))["bob"], max(delays))

    def test_a_long_row(self):
        names = ["home"] + ["n" + sign for sign in "abcdefghijklmnopqrs"]
        lines = ["post " + name for name in reversed(names[1:])] + ["house home"]
        lines += [f"tie {one} {other} 99" for one, other in reversed(list(zip(names, names[1:])))]
        self.assertEqual(self.late(read_net("\n".join(lines))), {name: 99 * at for at, name in enumerate(names)})

    def test_drawn_nets(self):
        source = random.Random(96)
        for turn in range(80):
            net = drawn_net(source, *drawn_size(source, 20, 40), house=turn % 10 != 9)
            ties = net.ties()

            def late(name):
                return max([late(one) + delay for number, one, other, delay in ties if other == name] or [0])

            self.assertEqual(self.late(net), {name: late(name) for name in net.names()})

    def test_a_listener_reads_at_its_round_and_its_lateness(self):
        source = random.Random(97)
        for turn in range(30):
            net = drawn_rich_net(source, source.randrange(2, 12), 2, idle=1)
            for time, name, turn, message in run(net, plan_for(net, 2, 11), 2, 11, [[1, 2]] * 3):
                self.assertEqual(time, turn + lateness(net)[name])


class Refused(unittest.TestCase):
    def refused(self, *handed):
        with self.assertRaises(PostError) as taken:
            run(*handed)
        return taken.exception

    def test_no_prime_ahead_of_no_plan(self):
        for prime in NO_PRIMES:
            for plan in (MIXING_PLAN, {}, {**MIXING_PLAN, 3: []}, {**MIXING_PLAN, 9: [1]}):
                for messages in ([], [[0, 0]]):
                    self.assertIs(self.refused(read_net(MIXING), plan, 2, prime, messages).__class__, NoPrime)
            self.assertIs(self.refused(Net(), {}, 2, prime, []).__class__, NoPrime)

    def test_no_plan(self):
        wrong = [({number: row for number, row in MIXING_PLAN.items() if number != left}, left) for left in range(9)]
        wrong += [({**MIXING_PLAN, number: row + [0]}, number) for number, row in MIXING_PLAN.items()]
        wrong += [({**MIXING_PLAN, number: row[:-1] + [5]}, number) for number, row in MIXING_PLAN.items()]
        wrong += [({**MIXING_PLAN, 12: [], 10: []}, 10), ({**MIXING_PLAN, -1: [], 8: [5]}, 8), ({}, 0)]
        for plan, number in wrong:
            for messages in ([], [[1, 2]], [[0, 0]] * 20):
                net = read_net(MIXING)
                kept = copy.deepcopy((plan, messages))
                told = self.refused(net, plan, 2, 5, messages)
                self.assertEqual((told.__class__, told.number), (NoPlan, number))
                self.assertEqual(((plan, messages), net_text(net)), (kept, MIXING))

    def test_no_plan_without_listeners(self):
        self.assertEqual(self.refused(Net(), {3: [1]}, 2, 5, []).number, 3)
        self.assertEqual(self.refused(read_net("house home\npost a\ntie home a"), {0: [1]}, 2, 5, [[1, 1]]).number, 0)


class Kept(unittest.TestCase):
    """[0.2]: what is handed in stays, what is told is the asker's own, and asked again the same is told."""

    def test_run(self):
        for plan in (MIXING_PLAN, {**MIXING_PLAN, 4: [0, 1]}):
            net = read_net(MIXING)
            handed = copy.deepcopy((plan, [[1, 2], [3, 4], [3, 4]]))
            first = run(net, handed[0], 2, 7, handed[1])
            same = copy.deepcopy(first)
            own = [id(found) for found in lists_within(first)]
            self.assertEqual(len(set(own)), len(own))
            self.assertFalse(shared(first, handed))
            self.assertFalse(shared(first, run(net, handed[0], 2, 7, handed[1])))
            spoil(first)
            self.assertEqual((handed, net_text(net)), ((plan, [[1, 2], [3, 4], [3, 4]]), MIXING))
            later = run(net, handed[0], 2, 7, handed[1])
            self.assertEqual(later, same)
            spoil(handed)
            net.cut_tie(3)
            self.assertEqual(later, same)

    def test_one_list_for_several_messages(self):
        message = [2, 1]
        told = run(read_net(MIXING), MIXING_PLAN, 2, 7, [message] * 3)
        self.assertEqual([found[3] for found in told], [[2, 1]] * 6)
        self.assertEqual(len({id(found[3]) for found in told} | {id(message)}), 7)

    def test_lateness(self):
        net = read_net(MIXING)
        first = lateness(net)
        spoil(first)
        later = lateness(net)
        self.assertEqual((later, net_text(net)), (MIXING_LATE, MIXING))
        net.cut_tie(3)
        self.assertEqual(later, MIXING_LATE)
        self.assertEqual(lateness(net), {"home": 0, "a": 3, "b": 1, "c": 5, "d": 6, "y": 11, "x": 8})

    def test_the_plan_s_own_order_counts_for_nothing(self):
        turned = {number: MIXING_PLAN[number] for number in sorted(MIXING_PLAN, reverse=True)}
        messages = [[1, 2], [3, 4]]
        self.assertEqual(run(read_net(MIXING), turned, 2, 7, messages),
                         run(read_net(MIXING), MIXING_PLAN, 2, 7, messages))


if __name__ == "__main__":
    unittest.main()
