"""Ways and cuts [4.1], of which just one is told [4.2], and [0.2] for both."""

import copy
import itertools
import random
import unittest

from drawing import drawn_fallen, drawn_net, drawn_size
from leading import ends, is_cut
from mixposts.errors import NoPost, PostError
from mixposts.reading import net_text, read_net
from mixposts.ways import ways

# A first way over a and d leaves no second one, unless it gives up the tie between them.
GIVING_WAY = (
    "house home\npost a\npost b\npost c\npost d\nlistener bob\ntie home a\ntie home b\ntie a d\ntie a c\ntie b d\n"
    "tie d bob\ntie c bob"
)

# Three ways, each of which may take what another one needs.
GIVING_WAY_TWICE = (
    "house home\npost a\npost b\npost c\npost d\npost e\npost f\nlistener bob\n"
    "tie home a\ntie home b\ntie home c\ntie a d\ntie b d\ntie b e\ntie c e\ntie c f\ntie a f\ntie d bob\ntie e bob\n"
    "tie f bob"
)
SEVERAL = "house home\npost a\nlistener bob\n" + "\n".join(["tie home a"] * 5 + ["tie a bob 9"] * 4 + ["tie home bob"])
BEHIND = (
    "house home\nlistener al\nlistener bob\npost c\ntie home al\ntie home al\ntie al bob\ntie al c\ntie c bob\n"
    "tie al bob\ntie home c"
)
TEXTS = (GIVING_WAY, GIVING_WAY_TWICE, SEVERAL, BEHIND)


def all_ways(net, listener, fallen):
    """Every way to the listener, by the words of [4.1]."""
    told = []
    begun = [([number], other) for number, (one, other) in ends(net).items() if one == net.home()]
    begun = [way for way in begun if way[0][0] not in fallen]
    while begun:
        numbers, at = begun.pop()
        if at == listener:
            told.append(numbers)
        for number, (one, other) in ends(net).items():
            if one == at and number not in fallen:
                begun.append((numbers + [number], other))
    return told


def most_ways(net, listener, fallen):
    """By the words: the most ways of which no two share a tie; for small nets."""
    every = all_ways(net, listener, fallen)
    many = 0
    for count in range(1, len(ends(net)) + 1):
        chosen = itertools.combinations(every, count)
        if not any(len(set(sum(some, []))) == len(sum(some, [])) for some in chosen):
            return many
        many = count
    return many


class Judging(unittest.TestCase):
    def asked(self, net, listener, many, fallen=None):
        told = ways(net, listener, many, fallen)
        self.assertIs(told.__class__, tuple)
        self.assertEqual(len(told), 2)
        self.assertIs(told[1].__class__, list)
        if told[0] == "ways":
            self.are_ways(net, listener, many, fallen or [], told[1])
        else:
            self.assertEqual(told[0], "cut")
            self.assertTrue(is_cut(net, listener, many, fallen or [], told[1]), (told, fallen))
        return told[0]

    def are_ways(self, net, listener, many, fallen, told):
        self.assertEqual(len(told), many)
        for way in told:
            self.is_way(net, listener, fallen, way)
        every = [number for way in told for number in way]
        self.assertEqual(len(every), len(set(every)), told)

    def is_way(self, net, listener, fallen, way):
        self.assertIs(way.__class__, list)
        self.assertFalse(set(way) & set(fallen), (way, fallen))
        walked = [ends(net)[number] for number in way]
        self.assertEqual(walked[0][0], net.home())
        self.assertEqual(walked[-1][1], listener)
        for ahead, behind in zip(walked, walked[1:]):
            self.assertEqual(ahead[1], behind[0])

    def asked_all(self, net, fallen=None):
        for listener in net.listeners():
            told = [self.asked(net, listener, many, fallen) for many in range(1, 7)]
            # Where so many ways are there, fewer are, too.
            self.assertEqual(told, sorted(told, reverse=True))

    def most_told(self, net, listener, fallen=None):
        return [self.asked(net, listener, many, fallen) for many in range(1, 7)].count("ways")


class ToldNets(Judging):
    def test_one_tie(self):
        net = read_net("house home\nlistener bob\ntie home bob 5")
        self.assertEqual(ways(net, "bob", 1), ("ways", [[0]]))
        self.assertEqual(ways(net, "bob", 2), ("cut", [0]))
        self.assertEqual(ways(net, "bob", 1, [0]), ("cut", []))

    def test_a_row(self):
        net = read_net("listener bob\npost a\nhouse home\npost b\ntie b bob\ntie home a\ntie a b")
        self.assertEqual(ways(net, "bob", 1), ("ways", [[1, 2, 0]]))
        self.assertEqual(self.most_told(net, "bob"), 1)
        for number in range(3):
            self.assertEqual(ways(net, "bob", 1, [number]), ("cut", []))

    def test_several_between_the_same_posts(self):
        net = read_net(SEVERAL)
        self.assertEqual(self.most_told(net, "bob"), 5)
        self.assertEqual(ways(net, "bob", 6), ("cut", [5, 6, 7, 8, 9]))
        self.assertEqual(self.most_told(net, "bob", [9]), 4)
        self.assertEqual(self.most_told(net, "bob", [0, 1, 2]), 3)
        self.assertEqual(self.most_told(net, "bob", [5, 6, 7, 8, 9]), 0)

    def test_six_between_the_same_posts(self):
        net = read_net("house home\nlistener bob" + "\ntie home bob" * 40)
        self.assertEqual(self.most_told(net, "bob"), 6)
        self.assertEqual(self.most_told(net, "bob", list(range(35))), 5)
        self.assertEqual(ways(net, "bob", 6, list(range(1, 36))), ("cut", [0, 36, 37, 38, 39]))

    def test_ways_that_give_way(self):
        net = read_net(GIVING_WAY)
        self.assertEqual(self.most_told(net, "bob"), 2)
        net = read_net(GIVING_WAY_TWICE)
        self.assertEqual(self.most_told(net, "bob"), 3)

    def test_ways_that_give_way_whatever_the_numbers(self):
        for text, many in ((GIVING_WAY, 2), (GIVING_WAY_TWICE, 3)):
            source = random.Random(41)
            posts = [line for line in text.split("\n") if not line.startswith("tie")]
            ties = [line for line in text.split("\n") if line.startswith("tie")]
            for turn in range(200):
                source.shuffle(posts)
                source.shuffle(ties)
                self.assertEqual(self.most_told(read_net("\n".join(posts + ties)), "bob"), many)

    def test_without_a_house(self):
        for text in (
            "listener bob", "post a\nlistener bob\ntie a bob", "listener al\nlistener bob\ntie al bob\ntie al bob",
        ):
            net = read_net(text)
            for many in range(1, 7):
                self.assertEqual(ways(net, "bob", many), ("cut", []))
                self.assertEqual(ways(net, "bob", many, []), ("cut", []))

    def test_with_nothing_that_leads_to_the_listener(self):
        for text in (
            "house home\nlistener bob", "house home\npost a\nlistener bob\ntie home a",
            "house home\npost a\nlistener bob\ntie a bob\ntie a bob", "house home\npost a\nlistener bob\ntie bob a",
            "house home\npost a\npost b\nlistener bob\ntie home a\ntie b bob",
        ):
            net = read_net(text)
            for many in range(1, 7):
                self.assertEqual(ways(net, "bob", many), ("cut", []))

    def test_one_listener_behind_another(self):
        net = read_net(BEHIND)
        self.assertEqual(self.most_told(net, "al"), 2)
        self.assertEqual(self.most_told(net, "bob"), 3)
        self.assertEqual(self.most_told(net, "bob", [6]), 2)
        self.assertEqual(self.most_told(net, "al", [0, 1]), 0)

    def test_ties_that_lead_nowhere(self):
        net = read_net("house home\npost a\npost b\nlistener bob\ntie home a\ntie a b\ntie home bob")
        self.assertEqual(ways(net, "bob", 1), ("ways", [[2]]))
        self.assertEqual(ways(net, "bob", 2), ("cut", [2]))

    def test_a_cut_in_the_middle(self):
        net = read_net(
            "house home\npost a\npost b\nlistener bob" + "\ntie home a" * 3 + "\ntie a b" * 2 + "\ntie b bob" * 3
        )
        self.assertEqual(self.most_told(net, "bob"), 2)
        self.assertEqual(ways(net, "bob", 3), ("cut", [3, 4]))
        self.assertEqual(ways(net, "bob", 3, [3]), ("cut", [4]))

    def test_numbers_of_ties_that_were_cut_and_put_in_again(self):
        net = read_net(BEHIND)
        net.cut_tie(0)
        net.cut_tie(6)
        self.assertEqual(self.most_told(net, "bob"), 1)
        self.assertEqual(net.tie("home", "bob"), 7)
        self.assertEqual(self.most_told(net, "bob"), 2)
        self.assertEqual(self.most_told(net, "bob", [7]), 1)

    def test_counts_beyond_the_bounds(self):
        net = read_net("house home\nlistener bob" + "\ntie home bob" * 9)
        self.assertEqual(ways(net, "bob", 0), ("ways", []))
        self.assertEqual([self.asked(net, "bob", many) for many in (7, 9, 10)], ["ways", "ways", "cut"])
        self.assertEqual(ways(read_net("listener bob"), "bob", 0), ("ways", []))


class DrawnNets(Judging):
    """A cut and ways that are both as they should be can't both be there, so what is told needs no other judge."""

    def test_drawn_nets(self):
        source = random.Random(42)
        for turn in range(250):
            net = drawn_net(source, *drawn_size(source, 20, 40))
            self.asked_all(net)
            self.asked_all(net, [])
            self.asked_all(net, drawn_fallen(source, net))

    def test_small_nets_by_the_words(self):
        source = random.Random(43)
        for turn in range(150):
            net = drawn_net(source, *drawn_size(source, 6, 9), listeners=3)
            fallen = drawn_fallen(source, net)
            for listener in net.listeners():
                self.assertEqual(self.most_told(net, listener), min(6, most_ways(net, listener, [])))
                self.assertEqual(self.most_told(net, listener, fallen), min(6, most_ways(net, listener, fallen)))

    def test_each_cut_is_crossed_by_each_way(self):
        source = random.Random(44)
        for turn in range(150):
            net = drawn_net(source, *drawn_size(source, 7, 12), listeners=3)
            fallen = drawn_fallen(source, net)
            for listener in net.listeners():
                for many in range(1, 7):
                    told = ways(net, listener, many, fallen)
                    if told[0] == "cut":
                        for way in all_ways(net, listener, fallen):
                            self.assertTrue(set(way) & set(told[1]))

    def test_fallen_ties_are_as_if_they_were_cut(self):
        source = random.Random(45)
        for turn in range(80):
            net = drawn_net(source, *drawn_size(source, 12, 30))
            fallen = drawn_fallen(source, net)
            for listener in net.listeners():
                told = self.most_told(net, listener, fallen)
                less = copy.deepcopy(net)
                for number in fallen:
                    less.cut_tie(number)
                self.assertEqual(told, self.most_told(less, listener))


class Refused(unittest.TestCase):
    def test_names_that_are_no_listeners(self):
        for text in (BEHIND, GIVING_WAY, "", "house home", "post c"):
            net = read_net(text)
            others = [name for name in net.names() if name not in net.listeners()]
            for name in others + ["x", "", "Bob", "bobby", "bo"]:
                for many in (1, 6):
                    for fallen in (None, []):
                        with self.assertRaises(PostError) as taken:
                            ways(net, name, many, fallen)
                        self.assertIs(taken.exception.__class__, NoPost)
                        self.assertEqual(taken.exception.name, name)
            self.assertEqual(net_text(net), text)


class Kept(unittest.TestCase):
    """[0.2]: what is handed in stays, what is told is the asker's own, and asked again the same is told."""

    def spoil(self, told):
        for way in told[1]:
            if isinstance(way, list):
                way.reverse()
                way.append(99)
        told[1].append(77)
        told[1].reverse()

    def test_told_again(self):
        for text in TEXTS:
            net = read_net(text)
            for listener, many, fallen in itertools.product(net.listeners(), range(1, 7), (None, [], [1], [0, 3])):
                first = ways(net, listener, many, fallen)
                same = copy.deepcopy(first)
                self.spoil(first)
                again = ways(net, listener, many, fallen)
                self.assertEqual(again, same)
                self.assertIsNot(again[1], ways(net, listener, many, fallen)[1])
                self.assertEqual(ways(read_net(text), listener, many, fallen), same)

    def test_fallen_left_out_and_none_fallen(self):
        for text in TEXTS:
            net = read_net(text)
            for many in range(1, 7):
                self.assertEqual(ways(net, "bob", many), ways(net, "bob", many, []))
                self.assertEqual(ways(net, "bob", many), ways(net, "bob", many, fallen=None))

    def test_what_is_handed_in_stays(self):
        for text in TEXTS:
            net = read_net(text)
            before = (net.ties(), net.names(), net.ordered())
            for many in range(1, 7):
                fallen = [0, 2, 3]
                told = ways(net, "bob", many, fallen)
                self.assertEqual(fallen, [0, 2, 3])
                kept = copy.deepcopy(told)
                fallen.clear()
                self.assertEqual(told, kept)
                self.spoil(told)
                self.assertEqual((net.ties(), net.names(), net.ordered()), before)
            self.assertEqual(net.tie("home", "bob"), len(before[0]))

    def test_what_was_told_stays_behind_a_change_of_the_net(self):
        net = read_net(BEHIND)
        told = [ways(net, "bob", many) for many in (2, 4)]
        kept = copy.deepcopy(told)
        net.cut_tie(2)
        net.tie("home", "bob")
        self.assertEqual(told, kept)

    def test_lists_told_are_apart(self):
        told = ways(read_net(SEVERAL), "bob", 5)[1]
        self.assertEqual(len({id(way) for way in told}), 5)


if __name__ == "__main__":
    unittest.main()
