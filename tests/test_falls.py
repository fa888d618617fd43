"""Plans judged by their falls [8.2], plans for nets that have changed [8.3], and [0.2] for both."""

import copy
import random
import unittest

from carrying import comes_to, lists_within, shared, spoil, ties_into, who_reads
from drawing import drawn_net, drawn_plan, drawn_rich_net, drawn_size
from leading import all_choices, ends, first_too_few, is_cut
from mixposts.errors import Cut, NoPlan, NoPrime, PostError, SmallPrime
from mixposts.falls import mended, stands
from mixposts.makers import plan_for
from mixposts.nets import Net
from mixposts.plans import checked_plan, heard
from mixposts.primes import Field
from mixposts.reading import net_text, read_net
from mixposts.tables import ones, product

NO_PRIMES = (-7, 0, 1, 4, 9, 561, 999999, 1000000, 1000003)
MIXING = (
    "house home\npost a\npost b\npost c\npost d\nlistener y\nlistener x\n"
    "tie home a\ntie home b\ntie a c\ntie b c\ntie c d\ntie a x\ntie d x\ntie b y\ntie d y"
)
# By this plan x hears (1, 0) and (1, 1), and y hears (0, 1) and (1, 1).
MIXING_PLAN = {0: [1, 0], 1: [0, 1], 2: [1], 3: [1], 4: [1, 1], 5: [1], 6: [1], 7: [1], 8: [1]}
# Each listener has three ties straight from the house.
THREE_EACH = "listener y\nhouse home\nlistener x" + "\ntie home x" * 3 + "\ntie home y" * 3
THREE_EACH_PLAN = {0: [1, 0], 1: [0, 1], 2: [1, 1], 3: [1, 2], 4: [2, 1], 5: [0, 1]}


def straight(many_ties):
    return read_net("house home\nlistener bob" + "\ntie home bob" * many_ties)


def refused(ask, *handed):
    try:
        ask(*handed)
    except PostError as error:
        return error
    raise AssertionError("not refused")


class Standing(unittest.TestCase):
    def asked(self, net, plan, many, prime, falls=None):
        """What is told, in short, when it is what the words ask for, and is good."""
        kept = net_text(net), copy.deepcopy(plan)
        told = stands(net, plan, many, prime) if falls is None else stands(net, plan, many, prime, falls)
        self.assertEqual((net_text(net), plan), kept)
        self.assertIs(told.__class__, tuple)
        deaf = self.first_deaf(net, plan, many, prime, falls or 0)
        if deaf is None:
            self.are_judgements(net, plan, many, prime, falls or 0, told)
        else:
            self.are_alike(net, plan, many, prime, deaf, told)
        return told[0]

    def first_deaf(self, net, plan, many, prime, falls):
        for choice in all_choices(net, falls):
            reading = who_reads(net, plan, many, prime, choice)
            for listener in net.listeners():
                if listener not in reading:
                    return choice, listener
        return None

    def are_judgements(self, net, plan, many, prime, falls, told):
        self.assertEqual((told[0], len(told)), ("stands", 2))
        self.assertIs(told[1].__class__, list)
        self.assertEqual([judgement[0] for judgement in told[1]], all_choices(net, falls))
        for judgement in told[1]:
            self.assertIs(judgement.__class__, tuple)
            choice, tables = judgement
            self.assertIs(choice.__class__, list)
            self.assertIs(tables.__class__, dict)
            self.assertEqual(list(tables), net.listeners())
            for listener, table in tables.items():
                self.reads(net, plan, many, prime, choice, listener, table)

    def reads(self, net, plan, many, prime, choice, listener, table):
        self.assertIs(table.__class__, list)
        self.assertEqual([len(row) for row in table], [len(ties_into(net, listener))] * many)
        self.assertTrue(all(number.__class__ is int and 0 <= number < prime for row in table for number in row))
        hears = heard(net, plan, many, prime, listener, choice)
        self.assertEqual(product(Field(prime), table, hears), ones(many))
        message = [(3 * place + 1) % prime for place in range(many)]
        comes = comes_to(net, plan, message, prime, choice, listener)
        self.assertEqual([sum(a * b for a, b in zip(row, comes)) % prime for row in table], message)

    def are_alike(self, net, plan, many, prime, deaf, told):
        self.assertEqual((told[0], len(told)), ("falls", 5))
        choice, listener, one, other = told[1:]
        self.assertEqual((choice, listener), deaf)
        for message in (one, other):
            self.assertIs(message.__class__, list)
            self.assertEqual(len(message), many)
            self.assertTrue(all(number.__class__ is int and 0 <= number < prime for number in message))
        self.assertNotEqual(one, other)
        self.assertEqual(
            comes_to(net, plan, one, prime, choice, listener), comes_to(net, plan, other, prime, choice, listener)
        )


class ToldPlans(Standing):
    def test_without_falls(self):
        net = read_net(MIXING)
        for falls in (None, 0):
            for prime in (2, 7, 999983):
                self.assertEqual(self.asked(net, MIXING_PLAN, 2, prime, falls), "stands")
                self.assertEqual(self.asked(net, {**MIXING_PLAN, 4: [1, 0]}, 2, prime, falls), "falls")
        self.assertEqual(stands(net, MIXING_PLAN, 2, 7), stands(net, MIXING_PLAN, 2, 7, 0))
        told = ("stands", [([], {"y": [[6, 1], [1, 0]], "x": [[1, 0], [6, 1]]})])
        self.assertEqual(stands(net, MIXING_PLAN, 2, 7), told)

    def test_the_first_listener(self):
        net = read_net(MIXING)
        self.assertEqual(stands(net, {**MIXING_PLAN, 4: [1, 0]}, 2, 7)[:3], ("falls", [], "x"))
        self.assertEqual(stands(net, {**MIXING_PLAN, 4: [0, 1]}, 2, 7)[:3], ("falls", [], "y"))
        self.assertEqual(stands(net, {**MIXING_PLAN, 4: [0, 0]}, 2, 7)[:3], ("falls", [], "y"))

    def test_one_fall(self):
        net = read_net(THREE_EACH)
        self.assertEqual(self.asked(net, THREE_EACH_PLAN, 2, 5, 1), "stands")
        self.assertEqual([choice for choice, tables in stands(net, THREE_EACH_PLAN, 2, 5, 1)[1]],
                         [[], [0], [1], [2], [3], [4], [5]])
        plan = {**THREE_EACH_PLAN, 5: [1, 2]}
        self.assertEqual(self.asked(net, plan, 2, 5, 0), "stands")
        self.assertEqual(self.asked(net, plan, 2, 5, 1), "falls")
        self.assertEqual(stands(net, plan, 2, 5, 1)[:3], ("falls", [4], "y"))

    def test_two_falls(self):
        net = read_net(THREE_EACH)
        self.assertEqual(self.asked(net, THREE_EACH_PLAN, 2, 5, 2), "falls")
        self.assertEqual(stands(net, THREE_EACH_PLAN, 2, 5, 2)[:3], ("falls", [0, 1], "x"))
        plan = {number: [number % 4 + 1] for number in range(6)}
        self.assertEqual(self.asked(net, plan, 1, 5, 2), "stands")
        self.assertEqual(len(stands(net, plan, 1, 5, 2)[1]), 22)
        self.assertEqual(stands(net, {**plan, 5: [0]}, 1, 5, 2)[:3], ("falls", [3, 4], "y"))
        self.assertEqual(stands(net, {**plan, 5: [0]}, 1, 5, 1)[0], "stands")

    def test_one_choice_ahead_of_an_earlier_listener(self):
        net = read_net(THREE_EACH)
        plan = {**THREE_EACH_PLAN, 0: [1, 1], 5: [1, 2]}
        # By [1] it is x that can't read, by [4] it is y, which was put in ahead.
        self.assertEqual(self.asked(net, plan, 2, 5, 1), "falls")
        self.assertEqual(stands(net, plan, 2, 5, 1)[:3], ("falls", [1], "x"))

    def test_straight_ties(self):
        for many in range(1, 7):
            for prime in (2, 999983):
                plan = {number: row for number, row in enumerate(ones(many))}
                self.assertEqual(self.asked(straight(many), plan, many, prime, 0), "stands")
                self.assertEqual(self.asked(straight(many), plan, many, prime, 1), "falls")
                plan[many] = [1] * many
                self.assertEqual(self.asked(straight(many + 1), plan, many, prime, 1), "stands")
                self.assertEqual(self.asked(straight(many + 1), plan, many, prime, 2), "falls")

    def test_without_listeners(self):
        for falls in (0, 1, 2):
            self.assertEqual(stands(Net(), {}, 1, 2, falls), ("stands", [([], {})]))
        net = read_net("house home\npost a\ntie home a\ntie home a")
        plan = {0: [0, 0], 1: [1, 2]}
        self.assertEqual(stands(net, plan, 2, 3), ("stands", [([], {})]))
        self.assertEqual(stands(net, plan, 2, 3, 2), ("stands", [([], {}), ([0], {}), ([1], {}), ([0, 1], {})]))

    def test_a_listener_that_nothing_leads_to(self):
        for text in ("listener bob", "house home\nlistener bob", "listener bob\npost a\ntie a bob"):
            net = read_net(text)
            plan = {number: [] for number in ends(net)}
            for falls in (0, 1, 2):
                self.assertEqual(self.asked(net, plan, 3, 2, falls), "falls")
                self.assertEqual(stands(net, plan, 3, 2, falls)[1:3], ([], "bob"))

    def test_ties_that_were_cut(self):
        net = straight(4)
        net.cut_tie(1)
        plan = {0: [1], 2: [0], 3: [2]}
        self.assertEqual(self.asked(net, plan, 1, 3, 1), "stands")
        self.assertEqual([choice for choice, tables in stands(net, plan, 1, 3, 1)[1]], [[], [0], [2], [3]])
        self.assertEqual(stands(net, plan, 1, 3, 2)[:3], ("falls", [0, 3], "bob"))

    def test_plans_that_were_made(self):
        source = random.Random(81)
        for turn in range(40):
            falls = turn % 3
            width = source.randrange(falls + 1, falls + 4)
            net = drawn_rich_net(source, source.randrange(2, 5), width, idle=turn % 2)
            many = width - falls
            self.assertEqual(self.asked(net, plan_for(net, many, 9973, falls), many, 9973, falls), "stands")

    def test_drawn_plans(self):
        source = random.Random(82)
        seen = {"stands": 0, "falls": 0}
        for turn in range(120):
            falls = turn % 3
            width = source.randrange(1, 5)
            net = drawn_rich_net(source, source.randrange(2, 5), width, extra=source.randrange(0, 3))
            prime = source.choice((2, 3, 11, 999983))
            many = source.randrange(1, width + 1)
            seen[self.asked(net, drawn_plan(source, net, many, prime), many, prime, falls)] += 1
        self.assertGreater(min(seen.values()), 12, seen)

    def test_any_net(self):
        source = random.Random(83)
        for turn in range(40):
            net = drawn_net(source, *drawn_size(source, 12, 20), house=turn % 10 != 9)
            self.asked(net, drawn_plan(source, net, 1, 7), 1, 7, turn % 3)

    def test_a_great_net(self):
        net = straight(40)
        plan = {number: [1, number] for number in range(40)}
        told = stands(net, plan, 2, 41, 2)
        self.assertEqual((told[0], [choice for choice, tables in told[1]]), ("stands", all_choices(net, 2)))
        for choice, tables in told[1]:
            hears = heard(net, plan, 2, 41, "bob", choice)
            self.assertEqual(product(Field(41), tables["bob"], hears), [[1, 0], [0, 1]])


class StandsRefused(unittest.TestCase):
    def test_no_prime_ahead_of_no_plan(self):
        for prime in NO_PRIMES:
            for plan in (MIXING_PLAN, {}, {**MIXING_PLAN, 3: []}, {**MIXING_PLAN, 9: [1]}):
                for falls in (0, 1, 2):
                    self.assertIs(refused(stands, read_net(MIXING), plan, 2, prime, falls).__class__, NoPrime)
                self.assertIs(refused(stands, read_net(MIXING), plan, 2, prime).__class__, NoPrime)

    def test_no_plan(self):
        wrong = [({number: row for number, row in MIXING_PLAN.items() if number != left}, left) for left in range(9)]
        wrong += [({**MIXING_PLAN, number: row + [0]}, number) for number, row in MIXING_PLAN.items()]
        wrong += [({**MIXING_PLAN, number: row[:-1] + [5]}, number) for number, row in MIXING_PLAN.items()]
        wrong += [({**MIXING_PLAN, 12: [], 10: []}, 10), ({**MIXING_PLAN, -1: [], 8: [5]}, 8), ({}, 0)]
        # A plan by which nobody reads is looked over as well.
        wrong += [({**MIXING_PLAN, 4: [0, 0], 8: []}, 8)]
        for plan, number in wrong:
            for falls in (0, 1, 2):
                net = read_net(MIXING)
                kept = copy.deepcopy(plan)
                told = refused(stands, net, plan, 2, 5, falls)
                self.assertEqual((told.__class__, told.number), (NoPlan, number))
                self.assertEqual((plan, net_text(net)), (kept, MIXING))

    def test_no_plan_without_listeners(self):
        self.assertEqual(refused(stands, Net(), {3: [1]}, 2, 5, 1).number, 3)
        self.assertEqual(refused(stands, read_net("house home\npost a\ntie home a"), {0: [1]}, 2, 5).number, 0)


class Mending(unittest.TestCase):
    def asked(self, net, old, many, prime):
        """What is told, when it is what the words ask for, and is good."""
        kept = net_text(net), copy.deepcopy(old)
        try:
            told = mended(net, old, many, prime)
        except PostError as error:
            told = error
        self.assertEqual((net_text(net), old, list(old)), kept + (list(kept[1]),))
        left = {number: old[number] for number in sorted(ends(net)) if number in old}
        if self.still_does(net, left, many, prime):
            self.assertEqual(told, (left, []))
            self.assertEqual(list(told[0]), sorted(left))
        elif first_too_few(net, many, 0) is not None:
            self.assertEqual((told.__class__, told.fallen, told.name), (Cut,) + first_too_few(net, many, 0))
            self.assertTrue(is_cut(net, told.name, many, [], told.numbers))
        elif prime < len(net.listeners()):
            self.assertEqual((told.__class__, told.needed), (SmallPrime, len(net.listeners())))
        else:
            self.is_new(net, old, many, prime, told)
        return told

    def still_does(self, net, left, many, prime):
        lengths = {number: many if one == net.home() else len(ties_into(net, one))
                   for number, (one, other) in ends(net).items()}
        if {number: len(row) for number, row in left.items()} != lengths:
            return False
        if not all(0 <= number < prime for row in left.values() for number in row):
            return False
        return who_reads(net, left, many, prime, []) == net.listeners()

    def is_new(self, net, old, many, prime, told):
        self.assertIs(told.__class__, tuple)
        plan, changed = told
        self.assertIs(plan.__class__, dict)
        self.assertIs(changed.__class__, list)
        self.assertEqual(list(plan), sorted(ends(net)))
        self.assertEqual(checked_plan(net, plan, many, prime), plan)
        self.assertEqual(who_reads(net, plan, many, prime, []), net.listeners())
        self.assertEqual(changed, [number for number in sorted(plan) if old.get(number) != plan[number]])


class Mended(Mending):
    def test_nothing_changed(self):
        net = read_net(MIXING)
        for prime in (2, 3, 7, 999983):
            self.assertEqual(self.asked(net, MIXING_PLAN, 2, prime), (MIXING_PLAN, []))
            made = plan_for(net, 2, prime)
            self.assertEqual(self.asked(net, made, 2, prime), (made, []))

    def test_told_by_rising_ties(self):
        net = read_net(MIXING)
        old = {number: MIXING_PLAN[number] for number in (8, 3, 1, 0, 5, 4, 7, 6, 2)}
        told = self.asked(net, old, 2, 7)
        self.assertEqual((told, list(told[0])), ((MIXING_PLAN, []), list(range(9))))
        old[4] = [0, 0]
        self.assertEqual(list(self.asked(net, old, 2, 7)[0]), list(range(9)))

    def test_a_tie_cut_that_is_not_needed(self):
        net = straight(3)
        old = {0: [1, 0], 1: [0, 1], 2: [1, 1]}
        net.cut_tie(1)
        self.assertEqual(self.asked(net, old, 2, 2), ({0: [1, 0], 2: [1, 1]}, []))

    def test_a_tie_cut_that_makes_a_list_too_long(self):
        net = read_net("house home\npost a\nlistener bob\ntie home a\ntie home a\ntie a bob")
        old = {0: [1], 1: [1], 2: [3, 4]}
        self.assertEqual(self.asked(net, old, 1, 5), (old, []))
        net.cut_tie(1)
        plan, changed = self.asked(net, old, 1, 5)
        self.assertIn(2, changed)
        self.assertEqual(len(plan[2]), 1)

    def test_a_tie_cut_that_is_needed(self):
        net = read_net(MIXING)
        net.cut_tie(3)
        told = self.asked(net, MIXING_PLAN, 2, 7)
        self.assertEqual((told.__class__, told.fallen, told.name), (Cut, [], "x"))
        told = self.asked(net, MIXING_PLAN, 1, 7)
        self.assertEqual(told[0].keys(), {0, 1, 2, 4, 5, 6, 7, 8})

    def test_a_tie_cut_where_another_plan_does(self):
        net = straight(3)
        net.cut_tie(2)
        plan, changed = self.asked(net, {0: [1, 2], 1: [2, 4], 2: [0, 1]}, 2, 5)
        self.assertTrue(changed)
        self.assertEqual(list(plan), [0, 1])

    def test_a_tie_put_in(self):
        net = read_net(MIXING)
        self.assertEqual(net.tie("home", "x"), 9)
        self.assertIn(9, self.asked(net, MIXING_PLAN, 2, 7)[1])
        self.assertEqual(self.asked(net, {**MIXING_PLAN, 9: [0, 0]}, 2, 7)[1], [])
        self.assertEqual(net.tie("b", "c"), 10)
        changed = self.asked(net, {**MIXING_PLAN, 9: [0, 0]}, 2, 7)[1]
        self.assertTrue({4, 10} <= set(changed))

    def test_a_tie_out_of_a_post_that_hears_nothing(self):
        net = read_net("house home\nlistener bob\npost a\npost b\ntie home bob\ntie a b")
        self.assertEqual(self.asked(net, {0: [1], 1: []}, 1, 2), ({0: [1], 1: []}, []))
        self.assertEqual(self.asked(net, {0: [1]}, 1, 2)[1], [1])

    def test_a_listener_put_in(self):
        net = read_net(MIXING)
        net.listener("z")
        self.assertEqual(self.asked(net, MIXING_PLAN, 2, 7).name, "z")
        net.tie("d", "z")
        net.tie("d", "z")
        told = self.asked(net, MIXING_PLAN, 2, 7)
        self.assertEqual((told.__class__, told.name, told.numbers), (Cut, "z", [4]))
        net.cut_tie(10)
        net.tie("b", "z")
        self.assertTrue({9, 11} <= set(self.asked(net, MIXING_PLAN, 2, 7)[1]))

    def test_kept_where_the_prime_is_less_than_the_listeners(self):
        lines = [f"listener {name}\ntie home {name}\ntie home {name}" for name in "abc"]
        net = read_net("\n".join(["house home"] + lines))
        old = {number: [1, 0] if number % 2 else [1, 1] for number in range(6)}
        self.assertEqual(self.asked(net, old, 2, 2), (old, []))
        self.assertEqual(self.asked(net, {**old, 7: [1]}, 2, 2), (old, []))
        self.assertEqual(self.asked(net, {**old, 5: [1, 1]}, 2, 2).needed, 3)
        self.assertTrue(self.asked(net, {**old, 5: [1, 1]}, 2, 3)[1])

    def test_an_empty_old_one(self):
        self.assertEqual(self.asked(read_net(MIXING), {}, 2, 3)[1], list(range(9)))
        self.assertEqual(self.asked(Net(), {}, 2, 3), ({}, []))
        self.assertEqual(self.asked(read_net("house home\npost a"), {}, 2, 3), ({}, []))
        self.assertEqual(self.asked(read_net("house home\npost a\ntie home a"), {}, 2, 3)[1], [0])

    def test_ties_that_are_no_more(self):
        net = read_net(MIXING)
        for old in ({9: [1]}, {-1: [], 40: [1, 2, 3]}, {9: [7], 10: [-1]}):
            self.assertEqual(self.asked(net, {**MIXING_PLAN, **old}, 2, 7), (MIXING_PLAN, []))
            self.assertEqual(self.asked(net, {**old, **MIXING_PLAN}, 2, 7), (MIXING_PLAN, []))
            self.assertEqual(self.asked(net, old, 2, 7)[1], list(range(9)))
            self.assertEqual(self.asked(Net(), old, 2, 7), ({}, []))

    def test_ties_that_it_lacks(self):
        net = read_net(MIXING)
        for number in MIXING_PLAN:
            old = {each: row for each, row in MIXING_PLAN.items() if each != number}
            self.assertIn(number, self.asked(net, old, 2, 7)[1])

    def test_lists_that_do_not_fit(self):
        net = read_net(MIXING)
        for number, row in MIXING_PLAN.items():
            for wrong in ([], row + [0], row + row, row[1:] + [7], row[1:] + [-1], [99] * 9):
                self.assertIn(number, self.asked(net, {**MIXING_PLAN, number: wrong}, 2, 7)[1])

    def test_another_count_and_another_prime(self):
        net = read_net(MIXING)
        fours = {number: [each * 4 for each in row] for number, row in MIXING_PLAN.items()}
        for many in (1, 2, 3):
            for prime in (2, 3, 5):
                self.asked(net, fours, many, prime)
                self.asked(net, MIXING_PLAN, many, prime)

    def test_a_new_one_that_is_the_old_one_in_part(self):
        net = read_net(MIXING)
        made = plan_for(net, 2, 7)
        for number in made:
            old = {**made, number: [0] * len(made[number])}
            if who_reads(net, old, 2, 7, []) != ["y", "x"]:
                self.assertEqual(self.asked(net, old, 2, 7), (made, [number]))

    def test_drawn_changes(self):
        source = random.Random(84)
        seen = {}
        for turn in range(200):
            net = drawn_rich_net(source, source.randrange(2, 8), source.randrange(1, 5), extra=source.randrange(0, 5))
            many = source.choice((1, 1, 2, 3))
            prime = source.choice((2, 5, 7, 11, 999983))
            old = drawn_plan(source, net, many, prime)
            if turn % 2 and first_too_few(net, many, 0) is None and prime >= len(net.listeners()):
                old = plan_for(net, many, prime)
            self.change(source, net)
            told = self.asked(net, old, many, prime)
            kind = told.__class__ if not isinstance(told, tuple) else bool(told[1])
            seen[kind] = seen.get(kind, 0) + 1
        self.assertGreater(min(seen.get(kind, 0) for kind in (True, False, Cut, SmallPrime)), 5, seen)

    def change(self, source, net):
        way = source.randrange(4)
        if way == 0:
            net.cut_tie(source.choice(sorted(ends(net))))
        elif way == 1:
            ordered = net.ordered()
            at = source.randrange(1, len(ordered))
            # The house may stand behind posts that nothing leads to.
            if ordered[at] != net.home():
                net.tie(ordered[source.randrange(at)], ordered[at])
        elif way == 2 and len(net.listeners()) < 8:
            net.listener("new")
            for turn in range(source.randrange(1, 5)):
                net.tie(source.choice(net.ordered()[:-1]), "new")


class MendedRefused(Mending):
    def test_no_prime(self):
        for prime in NO_PRIMES:
            for net in (Net(), read_net(MIXING), read_net("listener bob")):
                for old in ({}, MIXING_PLAN, {0: [0] * 9, 99: []}):
                    self.assertIs(refused(mended, net, old, 2, prime).__class__, NoPrime)

    def test_a_cut_ahead_of_a_small_prime(self):
        net = read_net("house home\nlistener a\nlistener b\nlistener c\ntie home a\ntie home b")
        told = self.asked(net, {0: [1], 1: [1]}, 1, 2)
        self.assertEqual((told.__class__, told.fallen, told.name, told.numbers), (Cut, [], "c", []))
        net.tie("home", "c")
        self.assertEqual(self.asked(net, {0: [1], 1: [1]}, 1, 2).needed, 3)
        self.assertEqual(self.asked(net, {0: [1], 1: [1], 2: [1]}, 1, 2)[1], [])

    def test_without_a_house(self):
        net = read_net("post a\nlistener bob\ntie a bob")
        for old in ({}, {0: []}, {0: [1]}):
            told = self.asked(net, old, 1, 2)
            self.assertEqual((told.__class__, told.name, told.numbers), (Cut, "bob", []))


class Kept(unittest.TestCase):
    """[0.2]: what is handed in stays, what is told is the asker's own, and asked again the same is told."""

    def told_again(self, ask, net, plan, *more):
        kept = copy.deepcopy(plan)
        text = net_text(net)
        first = ask(net, plan, *more)
        same = copy.deepcopy(first)
        own = [id(found) for found in lists_within(first)]
        self.assertEqual(len(set(own)), len(own))
        self.assertFalse(shared(first, plan))
        self.assertFalse(shared(first, ask(net, plan, *more)))
        spoil(first)
        self.assertEqual((net_text(net), plan, list(plan)), (text, kept, list(kept)))
        self.assertEqual(ask(net, plan, *more), same)
        later = ask(net, plan, *more)
        spoil(plan)
        net.cut_tie(sorted(ends(net))[0])
        self.assertEqual(later, same)

    def test_stands(self):
        for falls in (0, 1, 2):
            self.told_again(stands, read_net(MIXING), copy.deepcopy(MIXING_PLAN), 2, 7, falls)
            self.told_again(stands, read_net(THREE_EACH), copy.deepcopy(THREE_EACH_PLAN), 2, 5, falls)
            plan = {number: [1] for number in range(6)}
            self.told_again(stands, read_net(THREE_EACH), plan, 1, 5, falls)

    def test_mended(self):
        for old in (MIXING_PLAN, {}, {**MIXING_PLAN, 4: [0, 0]}, {**MIXING_PLAN, 9: [1]}, {5: [1], 3: [9]}):
            self.told_again(mended, read_net(MIXING), copy.deepcopy(old), 2, 7)

    def test_one_list_for_several_ties(self):
        net = read_net("house home\nlistener bob\npost a\ntie home bob\ntie home a")
        row = [1]
        told = mended(net, {0: row, 1: row}, 1, 2)
        self.assertEqual(told, ({0: [1], 1: [1]}, []))
        self.assertEqual(len({id(row), id(told[0][0]), id(told[0][1])}), 3)


if __name__ == "__main__":
    unittest.main()
