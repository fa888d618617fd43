"""The promise over the whole program [0.3], from a net's text to the rounds read; [0.1]."""

import random
import unittest

from carrying import comes_to, who_reads
from drawing import drawn_net, drawn_numbers, drawn_plan, drawn_rich_net, drawn_size
from leading import all_choices, is_cut, ways_at_once
from mixposts.desks import Desk
from mixposts.errors import Cut, SmallPrime
from mixposts.falls import mended, stands
from mixposts.judges import judged
from mixposts.makers import plan_for
from mixposts.plans import checked_plan
from mixposts.reading import net_text, read_net
from mixposts.rounds import lateness, run

PRIMES = (2, 3, 5, 7, 11, 101, 999983)


def drawn_text(source, turn):
    """Nets of all kinds; every other one has many ties into each post."""
    if turn % 2:
        return net_text(drawn_net(source, *drawn_size(source, 20, 40), house=turn % 20 != 19))
    width = source.randrange(1, 6)
    return net_text(drawn_rich_net(source, source.randrange(2, 36 // width if width > 1 else 18), width, idle=turn % 3))


class FromTheTextToTheRounds(unittest.TestCase):
    def test_a_plan_by_which_all_read_or_a_cut(self):
        source = random.Random(1)
        seen = {"plan": 0, "cut": 0}
        for turn in range(200):
            net = read_net(drawn_text(source, turn))
            prime = source.choice([prime for prime in PRIMES if prime >= len(net.listeners())])
            many = source.randrange(1, 4) if turn % 4 else source.randrange(1, 7)
            try:
                plan = plan_for(net, many, prime)
            except Cut as error:
                self.no_plan_can(net, many, error)
                seen["cut"] += 1
            else:
                self.all_read(source, net, plan, many, prime)
                seen["plan"] += 1
        self.assertGreater(min(seen.values()), 40, seen)

    def no_plan_can(self, net, many, error):
        self.assertEqual(error.fallen, [])
        self.assertTrue(is_cut(net, error.name, many, [], error.numbers))
        self.assertLess(ways_at_once(net, error.name, []), many)

    def all_read(self, source, net, plan, many, prime):
        self.assertEqual(checked_plan(net, plan, many, prime), plan)
        messages = [drawn_numbers(source, many, prime) for turn in range(source.randrange(1, 21))]
        told = run(net, plan, many, prime, messages)
        late = lateness(net)
        expected = [(turn + late[name], name, turn, message) for turn, message in enumerate(messages)
                    for name in net.listeners()]
        order = net.listeners().index
        self.assertEqual(told, sorted(expected, key=lambda found: (found[0], order(found[1]), found[2])))

    def test_the_same_at_the_desk(self):
        source = random.Random(2)
        seen = {"plan": 0, "cut": 0}
        for turn in range(60):
            text = drawn_text(source, turn)
            desk = Desk()
            for line in text.split("\n"):
                desk.say(line)
            self.assertEqual(desk.say("net"), text)
            listeners = read_net(text).listeners()
            many = source.randrange(1, 4)
            try:
                self.assertEqual(desk.say(f"plan {many} 11 0"), "ok")
            except Cut as error:
                self.no_plan_can(read_net(text), many, error)
                seen["cut"] += 1
                continue
            seen["plan"] += 1
            self.assertEqual(desk.say("judge"), "; ".join(f"{name} reads" for name in listeners))
            message = ",".join(str(number) for number in drawn_numbers(source, many, 11))
            told = [reading.split(" ") for reading in desk.say(f"run {message}").split("; ")]
            self.assertEqual(sorted(words[1] for words in told), sorted(listeners))
            self.assertEqual({(words[2], words[3]) for words in told}, {("0", message)})
        self.assertGreater(min(seen.values()), 10, seen)


class AnyPlan(unittest.TestCase):
    def test_of_each_listener_one_of_the_two(self):
        source = random.Random(3)
        seen = {"reads": 0, "alike": 0}
        for turn in range(100):
            net = read_net(drawn_text(source, turn))
            prime = source.choice(PRIMES)
            many = source.randrange(1, 4)
            plan = drawn_plan(source, net, many, prime)
            reading = who_reads(net, plan, many, prime, [])
            for name, told in judged(net, plan, many, prime).items():
                self.assertEqual(told[0], "reads" if name in reading else "alike")
                seen[told[0]] += 1
                message = drawn_numbers(source, many, prime)
                comes = comes_to(net, plan, message, prime, [], name)
                if told[0] == "reads":
                    read = [sum(a * b for a, b in zip(row, comes)) % prime for row in told[1]]
                    self.assertEqual(read, message)
                else:
                    self.assertNotEqual(told[1], told[2])
                    self.assertEqual(comes_to(net, plan, told[1], prime, [], name),
                                     comes_to(net, plan, told[2], prime, [], name))
        self.assertGreater(min(seen.values()), 40, seen)


class Falls(unittest.TestCase):
    def test_as_soon_as_the_prime_is_great_enough(self):
        source = random.Random(4)
        seen = {"plan": 0, "cut": 0, "small": 0}
        for turn in range(60):
            falls = 1 + turn % 2
            width = source.randrange(falls, falls + 3)
            net = read_net(net_text(drawn_rich_net(source, source.randrange(2, 5), width, extra=1)))
            many = max(1, width - falls)
            needed = len(net.listeners()) * len(all_choices(net, falls))
            prime = source.choice((7, 11, 31, 101, 9973))
            try:
                plan = plan_for(net, many, prime, falls)
            except Cut as error:
                self.assertTrue(is_cut(net, error.name, many, error.fallen, error.numbers))
                self.assertLess(ways_at_once(net, error.name, error.fallen), many)
                seen["cut"] += 1
            except SmallPrime as error:
                self.assertEqual(error.needed, needed)
                self.assertLess(prime, needed)
                seen["small"] += 1
            else:
                self.assertGreaterEqual(prime, needed)
                self.assertEqual(stands(net, plan, many, prime, falls)[0], "stands")
                for choice in all_choices(net, falls):
                    self.assertEqual(who_reads(net, plan, many, prime, choice), net.listeners())
                seen["plan"] += 1
        self.assertGreater(min(seen.values()), 6, seen)


class Changes(unittest.TestCase):
    def test_a_plan_that_still_does_is_kept(self):
        """A plan that stands a fall still does for the ties that are left, where no list of it has become too long."""
        source = random.Random(5)
        kept = 0
        for turn in range(80):
            net = drawn_rich_net(source, source.randrange(2, 6), 3)
            plan = plan_for(net, 2, 9973, 1)
            number, one, other, delay = source.choice(net.ties())
            net.cut_tie(number)
            told, changed = mended(net, plan, 2, 9973)
            if not net.out_of(other):
                self.assertEqual((told, changed), ({each: plan[each] for each in plan if each != number}, []))
                kept += 1
            self.assertEqual(changed, [each for each in told if plan.get(each) != told[each]])
            self.assertEqual(who_reads(net, told, 2, 9973, []), net.listeners())
        self.assertGreater(kept, 10)


class Delays(unittest.TestCase):
    def test_delays_change_nothing_of_what_is_read(self):
        source = random.Random(6)
        for turn in range(40):
            net = drawn_rich_net(source, source.randrange(2, 12), 2)
            alike = read_net("\n".join(" ".join(line.split(" ")[:3]) for line in net_text(net).split("\n")))
            plan = drawn_plan(source, net, 2, 101) if turn % 2 else plan_for(net, 2, 101)
            messages = [drawn_numbers(source, 2, 101) for turn in range(8)]
            self.assertEqual(self.read(net, plan, messages), self.read(alike, plan, messages))

    def read(self, net, plan, messages):
        return {(name, turn): message for time, name, turn, message in run(net, plan, 2, 101, messages)}


if __name__ == "__main__":
    unittest.main()
