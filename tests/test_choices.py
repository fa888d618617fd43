"""The choices of ties that may fall [8.1], and [0.2] for them."""

import itertools
import random
import unittest

from carrying import shared, spoil
from drawing import drawn_net, drawn_size
from mixposts.choices import choices
from mixposts.nets import Net
from mixposts.reading import net_text, read_net


def net_with(many):
    return read_net("house home\nlistener bob" + "\ntie home bob" * many)


def by_the_words(net, falls):
    """All lists of at most so many ties, then sorted as [8.1] says."""
    numbers = [tie[0] for tie in net.ties()]
    every = [list(some) for many in range(falls + 1) for some in itertools.combinations(numbers, many)]
    return sorted([sorted(choice) for choice in every], key=lambda choice: (len(choice), choice))


class Told(unittest.TestCase):
    def test_without_ties(self):
        for text in ("", "house home", "house home\nlistener bob\npost a"):
            for falls in (0, 1, 2):
                self.assertEqual(choices(read_net(text), falls), [[]])

    def test_one_tie(self):
        self.assertEqual(choices(net_with(1), 0), [[]])
        self.assertEqual(choices(net_with(1), 1), [[], [0]])
        self.assertEqual(choices(net_with(1), 2), [[], [0]])

    def test_two_ties(self):
        self.assertEqual(choices(net_with(2), 0), [[]])
        self.assertEqual(choices(net_with(2), 1), [[], [0], [1]])
        self.assertEqual(choices(net_with(2), 2), [[], [0], [1], [0, 1]])

    def test_four_ties(self):
        ones = [[], [0], [1], [2], [3]]
        self.assertEqual(choices(net_with(4), 1), ones)
        self.assertEqual(choices(net_with(4), 2), ones + [[0, 1], [0, 2], [0, 3], [1, 2], [1, 3], [2, 3]])

    def test_forty_ties(self):
        self.assertEqual([len(choices(net_with(40), falls)) for falls in (0, 1, 2)], [1, 41, 821])
        for falls in (0, 1, 2):
            self.assertEqual(choices(net_with(40), falls), by_the_words(net_with(40), falls))

    def test_ties_that_were_cut(self):
        net = net_with(5)
        net.cut_tie(0)
        net.cut_tie(3)
        self.assertEqual(choices(net, 2), [[], [1], [2], [4], [1, 2], [1, 4], [2, 4]])
        self.assertEqual(net.tie("home", "bob"), 5)
        self.assertEqual(choices(net, 1), [[], [1], [2], [4], [5]])
        for number in (1, 2, 4, 5):
            net.cut_tie(number)
        for falls in (0, 1, 2):
            self.assertEqual(choices(net, falls), [[]])

    def test_numbers_of_two_figures_behind_those_of_one(self):
        net = net_with(12)
        for number in (0, 1, 3, 4, 5, 6, 7, 8):
            net.cut_tie(number)
        expected = [[], [2], [9], [10], [11], [2, 9], [2, 10], [2, 11], [9, 10], [9, 11], [10, 11]]
        self.assertEqual(choices(net, 2), expected)

    def test_drawn_nets(self):
        source = random.Random(81)
        for turn in range(60):
            net = drawn_net(source, *drawn_size(source, 20, 40))
            for falls in (0, 1, 2):
                self.assertEqual(choices(net, falls), by_the_words(net, falls))

    def test_a_net_without_a_house(self):
        net = read_net("post a\npost b\ntie a b\ntie a b")
        self.assertEqual(choices(net, 2), [[], [0], [1], [0, 1]])


class Kept(unittest.TestCase):
    def test_new_lists_each_time(self):
        for net in (Net(), net_with(1), net_with(6)):
            for falls in (0, 1, 2):
                text = net_text(net)
                first = choices(net, falls)
                again = choices(net, falls)
                self.assertFalse(shared(first, again))
                self.assertEqual(len({id(choice) for choice in first}), len(first))
                spoil(first)
                self.assertEqual(again, by_the_words(net, falls))
                self.assertEqual(choices(net, falls), again)
                self.assertEqual(net_text(net), text)

    def test_kinds(self):
        told = choices(net_with(3), 2)
        self.assertIs(told.__class__, list)
        for choice in told:
            self.assertIs(choice.__class__, list)

    def test_what_was_told_stays_behind_a_change_of_the_net(self):
        net = net_with(2)
        told = choices(net, 2)
        net.cut_tie(0)
        net.tie("home", "bob")
        self.assertEqual(told, [[], [0], [1], [0, 1]])
        self.assertEqual(choices(net, 2), [[], [1], [2], [1, 2]])


if __name__ == "__main__":
    unittest.main()
