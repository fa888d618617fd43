"""Plans made [7.1], [7.2], [7.3], what is refused, and [0.2] for it."""

import copy
import random
import unittest

from carrying import lists_within, shared, spoil, ties_into, who_reads
from drawing import drawn_net, drawn_rich_net, drawn_size
from leading import all_choices, ends, first_too_few, is_cut, ways_at_once
from mixposts.choices import choices
from mixposts.errors import Cut, NoPrime, PostError, SmallPrime
from mixposts.judges import judged
from mixposts.makers import plan_for
from mixposts.nets import Net
from mixposts.plans import checked_plan
from mixposts.reading import net_text, read_net

NO_PRIMES = (-7, -2, -1, 0, 1, 4, 6, 9, 15, 25, 561, 999999, 1000000, 1000003, 10 ** 18 + 9)
# The sums of d are needed by both listeners.
MIXING = (
    "listener y\nlistener x\npost d\npost c\npost b\npost a\nhouse home\n"
    "tie d y\ntie b y\ntie d x\ntie a x\ntie c d\ntie b c\ntie a c\ntie home b\ntie home a"
)
# Each pair of the posts p, q, r, s has a listener; over the prime 2 there is no plan for two numbers.
PAIRS = (
    "house home\npost p\npost q\npost r\npost s\ntie home p\ntie home q\ntie home r\ntie home s\n"
    + "\n".join(
        f"listener {one}{other}\ntie {one} {one}{other}\ntie {other} {one}{other}"
        for one, other in ("pq", "pr", "ps", "qr", "qs", "rs")
    )
)
# Two ties lead to a, two to b; a tie each leads on from both.
NARROW = (
    "house home\nlistener cal\npost a\npost b\nlistener bob\ntie home a\ntie home a\ntie home b\ntie home b\n"
    "tie a bob\ntie b bob\ntie b cal\ntie home cal\ntie a cal"
)


def straight(many_ties, listeners=("bob",)):
    lines = ["house home"] + ["listener " + name for name in listeners]
    return read_net("\n".join(lines + ["tie home " + name for turn in range(many_ties) for name in listeners]))


def one_post_for_all(into, listeners, out):
    """All ties lead over one post: each tie into it is on the ways of all listeners."""
    names = ["l" + sign for sign in "abcdefgh"[:listeners]]
    lines = ["listener " + name for name in names] + ["post mid", "house home"]
    lines += ["tie mid " + name for name in names for turn in range(out)] + ["tie home mid"] * into
    return read_net("\n".join(lines))


def in_a_row(listeners, width):
    """Each listener sends on to the next one."""
    names = ["home"] + ["l" + sign for sign in "abcdefgh"[:listeners]]
    lines = ["listener " + name for name in reversed(names[1:])] + ["house home"]
    lines += [f"tie {one} {other}" for one, other in zip(names, names[1:]) for turn in range(width)]
    return read_net("\n".join(lines))


class Making(unittest.TestCase):
    def asked(self, net, many, prime, falls=None):
        """What is told, in short, when it is what the words ask for, and is good."""
        kept = net_text(net), net.ties()
        try:
            told = plan_for(net, many, prime) if falls is None else plan_for(net, many, prime, falls)
        except PostError as error:
            told = error
        self.assertEqual((net_text(net), net.ties()), kept)
        falls = falls or 0
        needed = len(net.listeners()) * len(all_choices(net, falls))
        too_few = first_too_few(net, many, falls)
        if too_few is not None:
            self.is_right_cut(net, many, too_few, told)
            return "cut"
        if prime < needed:
            self.assertIs(told.__class__, SmallPrime)
            self.assertEqual(told.needed, needed)
            return "small"
        self.stands(net, told, many, prime, falls)
        return "plan"

    def is_right_cut(self, net, many, too_few, told):
        self.assertIs(told.__class__, Cut)
        self.assertEqual((told.fallen, told.name), too_few)
        self.assertIs(told.fallen.__class__, list)
        self.assertIs(told.numbers.__class__, list)
        self.assertTrue(is_cut(net, told.name, many, told.fallen, told.numbers), told.numbers)

    def stands(self, net, told, many, prime, falls):
        self.assertIs(told.__class__, dict)
        self.assertEqual(list(told), sorted(ends(net)))
        for number, row in told.items():
            self.assertIs(row.__class__, list)
            begins = ends(net)[number][0]
            self.assertEqual(len(row), many if begins == net.home() else len(ties_into(net, begins)))
            for each in row:
                self.assertIs(each.__class__, int)
                self.assertTrue(0 <= each < prime)
        self.assertEqual(checked_plan(net, told, many, prime), told)
        for choice in all_choices(net, falls):
            self.assertEqual(who_reads(net, told, many, prime, choice), net.listeners(), (choice, told))

    def refused(self, net, many, prime, falls=0):
        with self.assertRaises(PostError) as taken:
            plan_for(net, many, prime, falls)
        return taken.exception


class WithoutFalls(Making):
    def test_falls_left_out(self):
        for prime in (2, 3, 5, 999983):
            for falls in (None, 0):
                self.assertEqual(self.asked(read_net(MIXING), 1, prime, falls), "plan")
                self.assertEqual(self.asked(read_net(MIXING), 2, prime, falls), "plan")
                self.assertEqual(self.asked(read_net(MIXING), 3, prime, falls), "cut")
        self.assertEqual(plan_for(read_net(MIXING), 2, 5), plan_for(read_net(MIXING), 2, 5, 0))

    def test_by_the_judge_each_listener_reads(self):
        told = judged(read_net(MIXING), plan_for(read_net(MIXING), 2, 2), 2, 2)
        self.assertEqual([judgement[0] for judgement in told.values()], ["reads", "reads"])

    def test_a_prime_that_is_needed(self):
        for prime in (2, 3, 5):
            self.assertEqual(self.asked(read_net(PAIRS), 2, prime), "small")
        for prime in (7, 11, 999983):
            self.assertEqual(self.asked(read_net(PAIRS), 2, prime), "plan")

    def test_one_to_six_numbers(self):
        for many in range(1, 7):
            for ties in range(1, 9):
                for prime in (2, 3, 999983):
                    told = self.asked(straight(ties), many, prime)
                    self.assertEqual(told, "plan" if ties >= many else "cut")

    def test_as_many_listeners_as_the_prime_over_one_post(self):
        for prime in (2, 3, 5, 7):
            for out in (1, 2, 3, 4):
                for into in range(1, 7):
                    if out * prime + into > 40:
                        continue
                    net = one_post_for_all(into, prime, out)
                    for many in range(1, 5):
                        told = self.asked(net, many, prime)
                        self.assertEqual(told, "plan" if min(into, out) >= many else "cut")

    def test_all_pairs_of_ties_with_the_least_prime(self):
        """One listener for each pair, for as many pairs as the prime is great."""
        for prime in (2, 3, 5, 7):
            posts = "abcde"
            lines = ["house home"] + [f"post {name}\ntie home {name}" for name in posts]
            pairs = [(one, other) for one in posts for other in posts if one < other][:prime]
            for one, other in pairs:
                lines.append(f"listener {one}{other}\ntie {one} {one}{other}\ntie {other} {one}{other}")
            self.assertEqual(self.asked(read_net("\n".join(lines)), 2, prime), "plan")

    def test_listeners_in_a_row(self):
        for listeners, width in ((8, 5), (7, 5), (5, 6), (2, 3)):
            net = in_a_row(listeners, width)
            for many in range(1, 7):
                told = self.asked(net, many, 11)
                self.assertEqual(told, "plan" if width >= many else "cut")

    def test_several_ties_between_the_same_posts(self):
        net = read_net("listener bob\npost a\nhouse home\n" + "\n".join(["tie a bob"] * 4 + ["tie home a"] * 3))
        for many in (1, 2, 3):
            self.assertEqual(self.asked(net, many, 2), "plan")
        self.assertEqual(self.asked(net, 4, 2), "cut")
        self.assertEqual(self.refused(net, 4, 2).numbers, [4, 5, 6])

    def test_posts_that_nothing_leads_to(self):
        net = read_net(
            "post idle\nlistener bob\npost lone\nhouse home\npost a\ntie idle bob\ntie idle a\ntie a bob\ntie home a\n"
            "tie home bob\ntie idle lone\ntie lone bob"
        )
        for prime in (2, 3, 101):
            self.assertEqual(self.asked(net, 1, prime), "plan")
            self.assertEqual(self.asked(net, 2, prime), "plan")
            self.assertEqual(self.asked(net, 3, prime), "cut")

    def test_ties_that_were_cut(self):
        net = read_net(MIXING)
        net.cut_tie(4)
        self.assertEqual(self.asked(net, 2, 5), "cut")
        self.assertEqual(net.tie("c", "d"), 9)
        self.assertEqual(self.asked(net, 2, 5), "plan")
        self.assertEqual(list(plan_for(net, 2, 5)), [0, 1, 2, 3, 5, 6, 7, 8, 9])

    def test_without_listeners(self):
        for falls in (None, 0, 1, 2):
            for prime in (2, 999983):
                for many in range(1, 7):
                    self.assertEqual(plan_for(Net(), many, prime, falls or 0), {})
                    self.assertEqual(self.asked(read_net("house home\npost a\npost b"), many, prime, falls), "plan")
                    net = read_net("post c\npost b\npost a\nhouse home\ntie b c\ntie a b\ntie home a\ntie home c")
                    self.assertEqual(self.asked(net, many, prime, falls), "plan")

    def test_a_plan_for_as_many_numbers_as_the_least_cut_has_ties(self):
        """[7.3]"""
        source = random.Random(71)
        seen = {}
        for turn in range(120):
            net = drawn_rich_net(source, source.randrange(2, 8), source.randrange(1, 5), extra=source.randrange(0, 7))
            prime = next(each for each in (2, 3, 5, 7, 11) if each >= len(net.listeners()))
            least = min(ways_at_once(net, listener, []) for listener in net.listeners())
            self.assertEqual(self.asked(net, min(least, 6), prime), "plan")
            if least < 6:
                self.assertEqual(self.asked(net, least + 1, prime), "cut")
            seen[least] = seen.get(least, 0) + 1
        self.assertGreater(len(seen), 4)


class WithFalls(Making):
    def test_straight_ties(self):
        for falls in (1, 2):
            for ties in range(1, 9):
                for many in range(1, 7):
                    told = self.asked(straight(ties), many, 101, falls)
                    self.assertEqual(told, "plan" if ties >= many + falls else "cut")

    def test_primes_as_great_as_needed(self):
        # With n ties there are n + 1 choices of one at most, and those, and n times n - 1, halved, of two at most.
        for ties, falls, prime in ((4, 1, 5), (6, 1, 7), (10, 1, 11), (12, 1, 13), (3, 2, 7), (4, 2, 11), (7, 2, 29),
                                   (8, 2, 37)):
            for many in range(1, min(6, ties - falls) + 1):
                self.assertEqual(self.asked(straight(ties), many, prime, falls), "plan")

    def test_primes_just_too_small(self):
        for ties, falls, prime, needed in ((4, 1, 3, 5), (6, 1, 5, 7), (3, 2, 5, 7), (5, 2, 13, 16), (7, 2, 23, 29)):
            self.assertEqual(self.asked(straight(ties), 1, prime, falls), "small")
            self.assertEqual(self.refused(straight(ties), 1, prime, falls).needed, needed)
        for listeners, prime, greater in ((3, 2, 3), (4, 3, 5), (6, 5, 7), (8, 7, 11)):
            net = straight(2, ["l" + sign for sign in "abcdefgh"[:listeners]])
            self.assertEqual(self.asked(net, 2, prime), "small")
            self.assertEqual(self.refused(net, 2, prime).needed, listeners)
            self.assertEqual(self.asked(net, 2, greater), "plan")

    def test_the_listeners_times_the_choices(self):
        net = straight(3, ("bob", "al"))
        for prime, told in ((13, "small"), (11, "small"), (17, "plan")):
            self.assertEqual(self.asked(net, 2, prime, 1), told)
        self.assertEqual(self.refused(net, 2, 13, 1).needed, 14)
        self.assertEqual(self.refused(net, 1, 43, 2).needed, 44)
        self.assertEqual(self.asked(net, 1, 47, 2), "plan")

    def test_ties_ahead_of_a_post_that_mixes(self):
        for into in range(1, 6):
            for out in range(1, 6):
                net = read_net("listener bob\npost mid\nhouse home" + "\ntie mid bob" * out + "\ntie home mid" * into)
                for falls in (1, 2):
                    for many in (1, 2, 3):
                        told = self.asked(net, many, 67, falls)
                        self.assertEqual(told, "plan" if min(into, out) >= many + falls else "cut")

    def test_a_post_for_all_with_the_least_prime(self):
        net = one_post_for_all(4, 1, 6)
        for many in (1, 2, 3):
            self.assertEqual(self.asked(net, many, 11, 1), "plan")
            self.assertEqual(self.asked(net, many, 7, 1), "small")
        net = one_post_for_all(5, 1, 6)
        for many in (1, 2, 3):
            self.assertEqual(self.asked(net, many, 67, 2), "plan")
            self.assertEqual(self.asked(net, many, 61, 2), "small")

    def test_listeners_in_a_row(self):
        net = in_a_row(3, 4)
        for prime in (37, 41, 999983):
            told = "small" if prime < 39 else "plan"
            self.assertEqual([self.asked(net, many, prime, 1) for many in (1, 2, 3)], [told] * 3)
        self.assertEqual([self.asked(net, many, 241, 2) for many in (1, 2, 3)], ["plan", "plan", "cut"])

    def test_a_narrow_place(self):
        net = read_net(NARROW)
        self.assertEqual(self.asked(net, 2, 2), "plan")
        self.assertEqual(self.asked(net, 1, 101, 1), "plan")
        self.assertEqual(self.asked(net, 2, 101, 1), "cut")
        self.assertEqual(self.asked(net, 1, 101, 2), "cut")

    def test_drawn_nets(self):
        source = random.Random(72)
        seen = {}
        for turn in range(90):
            falls = source.choice((1, 1, 2))
            width = source.randrange(falls, falls + 4)
            net = drawn_rich_net(source, source.randrange(2, 6), width, extra=source.randrange(0, 4),
                                 idle=source.randrange(0, 3))
            many = source.randrange(1, max(1, width - falls) + 1)
            told = self.asked(net, many, source.choice((2, 13, 101, 997, 9973, 999983)), falls)
            seen[told] = seen.get(told, 0) + 1
        self.assertGreater(min(seen.get(told, 0) for told in ("plan", "cut", "small")), 6, seen)

    def test_the_greatest_nets(self):
        source = random.Random(73)
        for many, falls, posts, width, prime in ((1, 1, 20, 2, 331), (3, 1, 11, 4, 331), (1, 2, 14, 3, 6569),
                                                 (2, 2, 11, 4, 999983)):
            net = drawn_rich_net(source, posts, width, extra=40 - width * (posts - 1))
            self.assertEqual(len(net.ties()), 40)
            told = plan_for(net, many, prime, falls)
            for choice in choices(net, falls):
                judgements = judged(net, told, many, prime, choice)
                self.assertEqual({judgement[0] for judgement in judgements.values()}, {"reads"})
        net = in_a_row(8, 5)
        told = plan_for(net, 3, 6569, 2)
        self.assertEqual(who_reads(net, told, 3, 6569, [0, 39]), net.listeners())
        self.assertEqual(self.refused(net, 3, 6563, 2).needed, 6568)
        self.assertEqual(self.refused(net, 4, 6569, 2).fallen, [0, 1])


class DrawnNets(Making):
    def test_any_net(self):
        source = random.Random(74)
        seen = {}
        for turn in range(200):
            net = drawn_net(source, *drawn_size(source, 20, 40), listeners=source.randrange(1, 9), house=turn % 10 != 9)
            told = self.asked(net, source.choice((1, 1, 2, 3, 6)), source.choice((2, 3, 7, 11, 999983)))
            seen[told] = seen.get(told, 0) + 1
        self.assertGreater(min(seen.get(told, 0) for told in ("plan", "cut")), 6, seen)

    def test_rich_nets(self):
        source = random.Random(75)
        seen = {}
        for turn in range(150):
            width = source.randrange(1, 7)
            net = drawn_rich_net(source, source.randrange(2, 40 // width if width > 2 else 18), width, idle=2)
            prime = source.choice((2, 3, 5, 7, 11, 101, 999983))
            told = self.asked(net, source.randrange(1, width + 1), prime)
            seen[told] = seen.get(told, 0) + 1
        self.assertGreater(min(seen.get(told, 0) for told in ("plan", "small")), 6, seen)


class Cuts(Making):
    def cut(self, net, many, prime, falls=0):
        self.assertEqual(self.asked(net, many, prime, falls), "cut")
        told = self.refused(net, many, prime, falls)
        return told.fallen, told.name, told.numbers

    def test_without_a_house(self):
        net = read_net("post a\nlistener bob\nlistener al\ntie a al\ntie a bob\ntie al bob")
        for falls in (0, 1, 2):
            for many in range(1, 7):
                for prime in (2, 999983):
                    self.assertEqual(self.cut(net, many, prime, falls), ([], "bob", []))

    def test_without_ties(self):
        for text in ("listener bob\nhouse home", "listener bob", "house home\npost a\nlistener bob\nlistener al"):
            for falls in (0, 1, 2):
                self.assertEqual(self.cut(read_net(text), 1, 2, falls), ([], "bob", []))
                self.assertEqual(self.cut(read_net(text), 6, 999983, falls), ([], "bob", []))

    def test_the_first_listener(self):
        lines = ["house home", "listener c", "listener b", "listener a"]
        lines += ["tie home c"] * 3 + ["tie home b"] * 2 + ["tie home a"] * 1
        net = read_net("\n".join(lines))
        self.assertEqual(self.cut(net, 2, 5), ([], "a", [5]))
        self.assertEqual(self.cut(net, 3, 5), ([], "b", [3, 4]))
        self.assertEqual(self.cut(net, 4, 5), ([], "c", [0, 1, 2]))

    def test_the_choice_goes_ahead_of_the_listener(self):
        net = read_net("house home\nlistener c\nlistener b\ntie home b\ntie home b\ntie home c\ntie home c")
        self.assertEqual(self.cut(net, 2, 999983, 1), ([0], "b", [1]))
        self.assertEqual(self.cut(net, 1, 999983, 2), ([0, 1], "b", []))
        self.assertEqual(self.cut(net, 2, 999983, 2), ([0], "b", [1]))
        self.assertEqual(self.cut(net, 3, 999983, 2), ([], "c", [2, 3]))

    def test_the_first_choice_of_two(self):
        net = read_net("house home\nlistener c\nlistener b" + "\ntie home c" * 3 + "\ntie home b" * 2)
        self.assertEqual(self.cut(net, 1, 999983, 2), ([3, 4], "b", []))
        net.cut_tie(1)
        self.assertEqual(self.cut(net, 1, 999983, 2), ([0, 2], "c", []))

    def test_where_the_prime_is_too_small_too(self):
        net = read_net(PAIRS)
        self.assertEqual(self.cut(net, 3, 2)[:2], ([], "pq"))
        self.assertEqual(self.cut(net, 2, 2, 1)[:2], ([0], "pq"))
        self.assertEqual(self.cut(net, 2, 3, 2)[:2], ([0], "pq"))
        self.assertEqual(self.cut(straight(4), 3, 2, 2)[:2], ([0, 1], "bob"))

    def test_a_listener_that_nothing_leads_to(self):
        net = read_net("house home\nlistener bob\nlistener lone\ntie home bob\ntie home bob")
        self.assertEqual(self.cut(net, 1, 2), ([], "lone", []))
        self.assertEqual(self.cut(net, 1, 2, 2), ([], "lone", []))

    def test_a_cut_within_the_net(self):
        lines = ["house home", "post a", "post b", "listener bob"]
        net = read_net("\n".join(lines + ["tie home a"] * 4 + ["tie a b"] * 2 + ["tie b bob"] * 4))
        self.assertEqual(self.cut(net, 3, 2), ([], "bob", [4, 5]))
        self.assertEqual(self.cut(net, 2, 2, 1), ([4], "bob", [5]))
        self.assertEqual(self.cut(net, 1, 2, 2), ([4, 5], "bob", []))


class NoPrimes(Making):
    def test_ahead_of_all(self):
        nets = [Net(), read_net("listener bob"), read_net(MIXING), read_net(PAIRS), straight(40)]
        for net in nets:
            for prime in NO_PRIMES:
                for many in (1, 2, 6):
                    self.assertIs(self.refused(net, many, prime).__class__, NoPrime)
                    self.assertIs(self.refused(net, many, prime, 1).__class__, NoPrime)
            self.assertIs(self.refused(net, 1, 4, 2).__class__, NoPrime)

    def test_falls_left_out(self):
        with self.assertRaises(NoPrime):
            plan_for(read_net(PAIRS), 3, 4)


class Kept(Making):
    """[0.2]: what is handed in stays, what is told is the asker's own, and asked again the same is told."""

    def test_told_again(self):
        source = random.Random(76)
        for turn in range(30):
            falls = turn % 3
            net = drawn_rich_net(source, source.randrange(2, 6), 1 + falls, extra=2, idle=1)
            text = net_text(net)
            first = plan_for(net, 1, 999983, falls)
            same = copy.deepcopy(first)
            own = [id(found) for found in lists_within(first)]
            self.assertEqual(len(set(own)), len(own))
            self.assertFalse(shared(first, plan_for(net, 1, 999983, falls)))
            spoil(first)
            self.assertEqual((net_text(net), plan_for(net, 1, 999983, falls)), (text, same))
            self.assertEqual(list(plan_for(net, 1, 999983, falls)), list(same))

    def test_changes_behind_the_call(self):
        net = read_net(MIXING)
        told = plan_for(net, 2, 5)
        same = copy.deepcopy(told)
        net.cut_tie(3)
        net.listener("late")
        self.assertEqual(told, same)

    def test_refused_again(self):
        net = read_net(NARROW)
        first = self.refused(net, 2, 101, 1)
        same = (list(first.fallen), first.name, list(first.numbers))
        spoil([first.fallen, first.numbers])
        again = self.refused(net, 2, 101, 1)
        self.assertEqual((again.fallen, again.name, again.numbers), same)
        self.assertEqual(net_text(net), NARROW)


if __name__ == "__main__":
    unittest.main()
