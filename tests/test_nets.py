"""Nets: names, posts and ties [3.1], refusals [3.2], orders [3.3], kinds [3.4], and [0.2] for all of them."""

import random
import unittest

from drawing import drawn_net, drawn_size, fresh_names
from mixposts.errors import (
    IntoHouse, NoName, NoNumber, NoPost, NoSuch, OneHouse, PostError, RingMade, Taken, TooMany,
)
from mixposts.nets import House, Listener, Net, Post

GOOD_NAMES = ("a", "z", "m", "ab", "zz", "abcdefgh", "zzzzzzzz", "ijklmnop", "qrstuvwx", "house", "tie", "post")
BAD_NAMES = (
    "", "abcdefghi", "abcdefghijklmnopqrst", "A", "Z", "aB", "Ab", "abcdefgH", "1", "a1", "1a", "0", " ", "a b", " a",
    "a ", "abcdefgh ", "a\n", "\n", "a\t", "a-b", "a_b", "_", "a.", "`", "{", "@", "[",
    "\u00e4", "a\u00e4", "\u00df", "\u00e9", "\u00aa", "\u0131", "\u0430", "\u03b1", "\u05d0", "\uff41", "\u4e00",
    "a\u0301", "a\u200b", "\u0661",
)


def net_of(posts, ties=()):
    """Posts are texts `h:name`, `l:name` or `name`; ties are tuples as Net.tie takes them."""
    net = Net()
    for word in posts:
        kind, colon, name = word.rpartition(":")
        {"h": net.house, "l": net.listener, "": net.post}[kind](name)
    for tie in ties:
        net.tie(*tie)
    return net


def full_posts(house=True):
    """Twenty posts, a house among them or none."""
    net = net_of(["h:home"] if house else [])
    for name in fresh_names(20 - len(net.names())):
        net.post(name)
    return net


def full_listeners():
    return net_of(["l:" + name for name in fresh_names(8)])


def full_ties():
    """A house, three posts in a row behind it, and forty ties."""
    net = net_of(["h:home", "one", "two", "three"], [("home", "one"), ("one", "two"), ("two", "three")])
    for at in range(37):
        net.tie("home", "three")
    return net


def state(net):
    return (
        [(post.name, post.kind()) for post in net.posts()], net.names(), net.listeners(), net.home(), net.ties(),
        [(name, net.into(name), net.out_of(name)) for name in net.names()], net.ordered(),
    )


class Refusing(unittest.TestCase):
    def refused(self, net, error, ask, *handed):
        """The one refusal is raised, and the net is as it was."""
        before = state(net)
        with self.assertRaises(PostError) as taken:
            ask(*handed)
        self.assertIs(taken.exception.__class__, error, handed)
        self.assertEqual(state(net), before)
        return taken.exception

    def refused_post(self, net, error, ask, name, next_number):
        """A post is refused, and the number of the next tie is as it was."""
        self.refused(net, error, ask, name)
        posts = [post.name for post in net.posts() if post.hears()]
        self.assertEqual(net.tie(posts[0], posts[1]), next_number)


class Names(Refusing):
    def test_names_of_small_letters(self):
        for name in GOOD_NAMES:
            for kind in ("house", "post", "listener"):
                net = Net()
                ask = {"house": net.house, "post": net.post, "listener": net.listener}[kind]
                self.assertIsNone(ask(name))
                self.assertEqual(state(net)[0], [(name, kind)])

    def test_each_letter_is_a_name(self):
        for at in range(0, 26, 13):
            net = Net()
            letters = list("abcdefghijklmnopqrstuvwxyz")[at:at + 13]
            for letter in letters:
                net.post(letter)
            self.assertEqual(net.names(), letters)

    def test_every_length_from_one_to_eight(self):
        net = Net()
        for many in range(1, 9):
            net.post("q" * many)
        self.assertEqual([len(name) for name in net.names()], list(range(1, 9)))
        self.refused(net, NoName, net.post, "q" * 9)

    def test_what_is_no_name(self):
        for name in BAD_NAMES:
            net = net_of(["one", "two"], [("one", "two")])
            for ask in (net.house, net.post, net.listener):
                self.refused(net, NoName, ask, name)
            self.assertEqual(net.tie("one", "two"), 1)


class PostsPutIn(Refusing):
    def test_begins_with_nothing(self):
        self.assertEqual(state(Net()), ([], [], [], None, [], [], []))

    def test_in_the_order_of_putting_in(self):
        net = net_of(["zoe", "l:bob", "h:home", "ada", "l:al"])
        self.assertEqual(net.names(), ["zoe", "bob", "home", "ada", "al"])
        self.assertEqual([post.name for post in net.posts()], ["zoe", "bob", "home", "ada", "al"])
        self.assertEqual([post.kind() for post in net.posts()], ["post", "listener", "house", "post", "listener"])
        self.assertEqual(net.listeners(), ["bob", "al"])
        self.assertEqual(net.home(), "home")

    def test_two_nets_are_apart(self):
        one = net_of(["a", "b"], [("a", "b")])
        other = net_of(["a", "b"])
        self.assertEqual(other.ties(), [])
        self.assertEqual(other.tie("b", "a"), 0)
        self.assertEqual(one.ties(), [(0, "a", "b", 1)])

    def test_taken(self):
        for taken in ("home", "bob", "ada"):
            net = net_of(["h:home", "l:bob", "ada"])
            self.refused_post(net, Taken, net.post, taken, 0)
            self.refused_post(net, Taken, net.listener, taken, 1)
        net = net_of(["l:bob", "ada"])
        self.refused_post(net, Taken, net.house, "bob", 0)
        self.refused_post(net, Taken, net.house, "ada", 1)

    def test_one_house(self):
        net = net_of(["a", "h:home", "b"])
        self.refused_post(net, OneHouse, net.house, "other", 0)
        self.assertEqual(net.home(), "home")

    def test_twenty_posts(self):
        for house in (True, False):
            net = full_posts(house)
            self.assertEqual(len(net.names()), 20)
            self.refused_post(net, TooMany, net.post, "more", 0)
            self.refused_post(net, TooMany, net.listener, "more", 1)
        self.refused_post(net, TooMany, net.house, "more", 2)

    def test_the_twentieth_may_be_of_each_kind(self):
        for kind in ("house", "post", "listener"):
            net = net_of(fresh_names(19))
            {"house": net.house, "post": net.post, "listener": net.listener}[kind]("last")
            self.assertEqual(state(net)[0][19:], [("last", kind)])

    def test_eight_listeners(self):
        net = full_listeners()
        self.refused_post(net, TooMany, net.listener, "more", 0)
        net.post("more")
        net.house("home")
        self.assertEqual(len(net.names()), 10)
        self.assertEqual(len(net.listeners()), 8)
        self.refused_post(net, TooMany, net.listener, "yet", 1)

    def test_twenty_with_eight_listeners(self):
        net = net_of(["h:home"] + ["l:" + name for name in fresh_names(8)] + fresh_names(11, 8))
        self.assertEqual((len(net.names()), len(net.listeners())), (20, 8))
        self.refused_post(net, TooMany, net.listener, "more", 0)


class PostsTwoAtOnce(Refusing):
    """Where two refusals of a post are due, the one that is told first is raised."""

    def test_no_name_ahead_of_one_house(self):
        net = net_of(["h:home", "a", "b"])
        self.refused_post(net, NoName, net.house, "Home", 0)

    def test_no_name_ahead_of_too_many(self):
        net = full_posts()
        self.refused_post(net, NoName, net.post, "", 0)
        self.refused_post(net, NoName, net.listener, "", 1)
        self.refused_post(net, NoName, net.house, "", 2)
        net = full_posts(house=False)
        self.refused_post(net, NoName, net.house, "", 0)
        net = full_listeners()
        self.refused_post(net, NoName, net.listener, "", 0)

    def test_taken_ahead_of_one_house(self):
        net = net_of(["h:home", "a", "b"])
        self.refused_post(net, Taken, net.house, "home", 0)
        self.refused_post(net, Taken, net.house, "a", 1)

    def test_taken_ahead_of_too_many(self):
        net = full_posts()
        self.refused_post(net, Taken, net.post, "naa", 0)
        self.refused_post(net, Taken, net.listener, "naa", 1)
        self.refused_post(net, Taken, net.house, "naa", 2)
        net = full_posts(house=False)
        self.refused_post(net, Taken, net.house, "naa", 0)
        net = full_listeners()
        self.refused_post(net, Taken, net.listener, "naa", 0)

    def test_one_house_ahead_of_too_many(self):
        net = full_posts()
        self.refused_post(net, OneHouse, net.house, "more", 0)


class TiesPutIn(Refusing):
    def test_numbers_rise_from_nought(self):
        net = net_of(["h:home", "a", "l:bob"])
        told = [net.tie("a", "bob", 7), net.tie("home", "a"), net.tie("home", "bob", delay=99)]
        self.assertEqual(told, [0, 1, 2])
        self.assertEqual(net.ties(), [(0, "a", "bob", 7), (1, "home", "a", 1), (2, "home", "bob", 99)])

    def test_several_between_the_same_posts(self):
        net = net_of(["a", "b"])
        self.assertEqual([net.tie("a", "b"), net.tie("a", "b"), net.tie("a", "b", 2)], [0, 1, 2])
        self.assertEqual(net.ties(), [(0, "a", "b", 1), (1, "a", "b", 1), (2, "a", "b", 2)])

    def test_a_listener_may_send_on(self):
        net = net_of(["l:al", "l:bob", "c"], [("al", "bob"), ("bob", "c")])
        self.assertEqual(net.ties(), [(0, "al", "bob", 1), (1, "bob", "c", 1)])

    def test_a_number_is_never_given_again(self):
        net = net_of(["a", "b", "c"], [("a", "b"), ("b", "c"), ("a", "c")])
        self.assertIsNone(net.cut_tie(1))
        self.assertEqual(net.ties(), [(0, "a", "b", 1), (2, "a", "c", 1)])
        self.assertEqual(net.tie("b", "c", 5), 3)
        net.cut_tie(3)
        self.assertEqual(net.tie("b", "c", 6), 4)
        for number in (0, 2, 4):
            net.cut_tie(number)
        self.assertEqual(net.ties(), [])
        self.assertEqual(net.tie("a", "b"), 5)
        self.assertEqual(net.ties(), [(5, "a", "b", 1)])

    def test_delays(self):
        net = net_of(["a", "b"])
        net.tie("a", "b")
        net.tie("a", "b", 1)
        net.tie("a", "b", 99)
        net.tie("a", "b", 50)
        self.assertEqual([tie[3] for tie in net.ties()], [1, 1, 99, 50])
        for delay in (0, 100, -1, -99, 101, 10 ** 30):
            self.refused(net, NoNumber, net.tie, "a", "b", delay)
        self.assertEqual(net.tie("a", "b"), 4)

    def test_a_truth_is_no_delay(self):
        net = net_of(["a", "b"])
        self.refused(net, NoNumber, net.tie, "a", "b", True)

    def test_no_post(self):
        net = net_of(["h:home", "a"], [("home", "a")])
        self.assertEqual(self.refused(net, NoPost, net.tie, "x", "a").name, "x")
        self.assertEqual(self.refused(net, NoPost, net.tie, "a", "y").name, "y")
        self.assertEqual(self.refused(net, NoPost, net.tie, "A", "a").name, "A")
        self.assertEqual(self.refused(net, NoPost, net.tie, "a", "").name, "")
        self.assertEqual(net.tie("home", "a"), 1)

    def test_into_the_house(self):
        net = net_of(["h:home", "a", "l:bob"])
        self.refused(net, IntoHouse, net.tie, "a", "home")
        self.refused(net, IntoHouse, net.tie, "bob", "home")
        self.assertEqual(net.tie("home", "a"), 0)

    def test_a_ring_over_one_post(self):
        net = net_of(["h:home", "a", "l:bob"])
        self.refused(net, RingMade, net.tie, "a", "a")
        self.refused(net, RingMade, net.tie, "bob", "bob")
        self.assertEqual(net.tie("home", "a"), 0)

    def test_a_ring_over_two(self):
        net = net_of(["a", "b"], [("a", "b")])
        self.refused(net, RingMade, net.tie, "b", "a")
        self.assertEqual(net.tie("a", "b"), 1)

    def test_a_ring_over_many(self):
        names = fresh_names(20)
        pairs = list(zip(names, names[1:]))
        for ties in (pairs, pairs[::-1], pairs[::2] + pairs[1::2]):
            net = net_of(names, ties)
            for at in range(1, 20):
                self.refused(net, RingMade, net.tie, names[at], names[0])
                self.refused(net, RingMade, net.tie, names[19], names[19 - at])
            self.assertEqual(net.tie(names[0], names[19]), 19)

    def test_a_ring_over_a_side_way(self):
        net = net_of(["a", "b", "c", "d"], [("a", "c"), ("a", "b"), ("b", "d")])
        self.refused(net, RingMade, net.tie, "d", "a")
        self.assertEqual(net.tie("d", "c"), 3)
        self.refused(net, RingMade, net.tie, "c", "b")

    def test_what_is_no_ring(self):
        net = net_of(["a", "b", "c", "d"], [("a", "b"), ("a", "c"), ("b", "d"), ("c", "d"), ("a", "d"), ("b", "c")])
        self.assertEqual(len(net.ties()), 6)

    def test_a_ring_that_was_cut_open(self):
        net = net_of(["a", "b", "c"], [("a", "b"), ("b", "c")])
        self.refused(net, RingMade, net.tie, "c", "a")
        net.cut_tie(0)
        self.assertEqual(net.tie("c", "a"), 2)
        self.refused(net, RingMade, net.tie, "a", "b")
        self.refused(net, RingMade, net.tie, "a", "c")

    def test_forty_ties_at_a_time(self):
        net = full_ties()
        self.assertEqual(len(net.ties()), 40)
        self.refused(net, TooMany, net.tie, "home", "one")
        net.cut_tie(17)
        self.assertEqual(net.tie("home", "one", 3), 40)
        self.assertEqual(len(net.ties()), 40)
        self.assertEqual(net.ties()[-1], (40, "home", "one", 3))
        self.refused(net, TooMany, net.tie, "home", "one")
        net.cut_tie(40)
        self.assertEqual(net.tie("home", "one"), 41)

    def test_far_more_than_forty_one_behind_another(self):
        net = net_of(["a", "b"])
        for number in range(130):
            self.assertEqual(net.tie("a", "b"), number)
            net.cut_tie(number)

    def test_cutting_what_is_not_there(self):
        net = net_of(["a", "b"], [("a", "b"), ("a", "b"), ("a", "b")])
        net.cut_tie(1)
        for number in (1, 3, 4, -1, 40, 10 ** 30, True, False):
            told = self.refused(net, NoSuch, net.cut_tie, number)
            self.assertEqual(told.number, number)
        self.assertEqual(net.tie("a", "b"), 3)
        empty = Net()
        self.assertEqual(self.refused(empty, NoSuch, empty.cut_tie, 0).number, 0)


class TiesTwoAtOnce(Refusing):
    """Where two refusals of a tie are due, the one that is told first is raised."""

    def no_post(self, net, name, *handed):
        self.assertEqual(self.refused(net, NoPost, net.tie, *handed).name, name)

    def test_of_two_strangers_the_one_first(self):
        net = net_of(["a"])
        self.no_post(net, "x", "x", "y")
        self.no_post(net, "y", "y", "x")

    def test_no_post_ahead_of_the_rest(self):
        net = full_ties()
        net.cut_tie(39)
        self.no_post(net, "x", "x", "home")
        self.no_post(net, "x", "x", "x")
        self.no_post(net, "x", "x", "one", 0)
        self.no_post(net, "x", "one", "x", 100)
        self.assertEqual(net.tie("home", "one"), 40)
        self.no_post(net, "x", "x", "one")
        self.no_post(net, "x", "one", "x")

    def test_into_house_ahead_of_the_rest(self):
        net = full_ties()
        net.cut_tie(39)
        self.refused(net, IntoHouse, net.tie, "home", "home")
        self.refused(net, IntoHouse, net.tie, "three", "home")
        self.refused(net, IntoHouse, net.tie, "one", "home", 0)
        net.post("lone")
        self.refused(net, IntoHouse, net.tie, "lone", "home", 100)
        self.assertEqual(net.tie("home", "one"), 40)
        self.refused(net, IntoHouse, net.tie, "lone", "home")

    def test_ring_ahead_of_the_rest(self):
        net = full_ties()
        net.cut_tie(39)
        self.refused(net, RingMade, net.tie, "three", "one", 0)
        self.refused(net, RingMade, net.tie, "one", "one", 100)
        self.assertEqual(net.tie("home", "one"), 40)
        self.refused(net, RingMade, net.tie, "three", "one")
        self.refused(net, RingMade, net.tie, "one", "one")

    def test_no_number_ahead_of_too_many(self):
        net = full_ties()
        self.refused(net, NoNumber, net.tie, "home", "one", 0)
        self.refused(net, NoNumber, net.tie, "home", "one", 100)
        self.refused(net, TooMany, net.tie, "home", "one", 99)


class Orders(Refusing):
    def told_by_the_words(self, net):
        told = []
        while len(told) < len(net.names()):
            ready = [
                name for name in net.names()
                if name not in told and all(one in told for number, one, other, delay in net.ties() if other == name)
            ]
            told.append(ready[0])
        return told

    def test_into_and_out_of(self):
        net = net_of(
            ["h:home", "a", "l:bob", "lone"],
            [("a", "bob"), ("home", "a"), ("home", "bob"), ("a", "bob", 9), ("home", "a")],
        )
        self.assertEqual([net.into(name) for name in net.names()], [[], [1, 4], [0, 2, 3], []])
        self.assertEqual([net.out_of(name) for name in net.names()], [[1, 2, 4], [0, 3], [], []])
        net.cut_tie(2)
        net.cut_tie(1)
        self.assertEqual(net.tie("home", "bob"), 5)
        self.assertEqual([net.into(name) for name in net.names()], [[], [4], [0, 3, 5], []])
        self.assertEqual([net.out_of(name) for name in net.names()], [[4, 5], [0, 3], [], []])

    def test_into_and_out_of_a_stranger(self):
        net = net_of(["h:home", "a"], [("home", "a")])
        for name in ("x", "", "A", "homea"):
            for ask in (net.into, net.out_of, Net().into, Net().out_of):
                self.assertEqual(self.refused(net, NoPost, ask, name).name, name)

    def test_into_and_out_of_drawn_nets(self):
        source = random.Random(31)
        for turn in range(60):
            net = drawn_net(source, *drawn_size(source, 20, 40))
            for name in net.names():
                self.assertEqual(net.into(name), sorted(tie[0] for tie in net.ties() if tie[2] == name))
                self.assertEqual(net.out_of(name), sorted(tie[0] for tie in net.ties() if tie[1] == name))

    def test_ordered_without_ties(self):
        net = net_of(["c", "l:a", "h:b"])
        self.assertEqual(net.ordered(), ["c", "a", "b"])

    def test_ordered_against_the_order_of_putting_in(self):
        net = net_of(["d", "c", "b", "a"], [("c", "d"), ("b", "c"), ("a", "b")])
        self.assertEqual(net.ordered(), ["a", "b", "c", "d"])

    def test_ordered_begins_again_at_the_first(self):
        """Behind b the first one, a, is ready; so it comes ahead of c, which was ready all the while."""
        net = net_of(["a", "b", "c"], [("b", "a")])
        self.assertEqual(net.ordered(), ["b", "a", "c"])
        net = net_of(["a", "b", "c", "d", "e"], [("c", "a"), ("d", "b"), ("a", "b")])
        self.assertEqual(net.ordered(), ["c", "a", "d", "b", "e"])

    def test_ordered_waits_for_all_ties(self):
        net = net_of(["x", "a", "b", "c"], [("a", "x"), ("c", "x")])
        self.assertEqual(net.ordered(), ["a", "b", "c", "x"])

    def test_ordered_behind_cuts(self):
        net = net_of(["x", "a", "b"], [("b", "x"), ("a", "x")])
        self.assertEqual(net.ordered(), ["a", "b", "x"])
        net.cut_tie(0)
        self.assertEqual(net.ordered(), ["a", "x", "b"])
        net.cut_tie(1)
        self.assertEqual(net.ordered(), ["x", "a", "b"])
        net.tie("b", "a")
        self.assertEqual(net.ordered(), ["x", "b", "a"])

    def test_ordered_of_drawn_nets(self):
        source = random.Random(32)
        for turn in range(120):
            net = drawn_net(source, *drawn_size(source, 20, 40))
            told = net.ordered()
            self.assertEqual(told, self.told_by_the_words(net))
            self.assertEqual(sorted(told), sorted(net.names()))


class Kinds(unittest.TestCase):
    def test_kinds(self):
        for post, kind, reads, hears in (
            (Post("ada"), "post", False, True), (House("ada"), "house", False, False),
            (Listener("ada"), "listener", True, True),
        ):
            self.assertEqual(post.name, "ada")
            self.assertEqual(post.kind(), kind)
            self.assertIs(post.reads(), reads)
            self.assertIs(post.hears(), hears)

    def test_classes(self):
        self.assertTrue(issubclass(House, Post))
        self.assertTrue(issubclass(Listener, Post))
        self.assertFalse(issubclass(House, Listener))
        self.assertFalse(issubclass(Listener, House))
        self.assertFalse(isinstance(Post("a"), (House, Listener)))

    def test_posts_of_a_net(self):
        told = net_of(["a", "h:home", "l:bob"]).posts()
        self.assertEqual([post.__class__ for post in told], [Post, House, Listener])
        self.assertEqual([post.reads() for post in told], [False, False, True])
        self.assertEqual([post.hears() for post in told], [True, False, True])

    def test_posts_are_the_same_by_kind_and_name(self):
        self.assertEqual(Post("a"), Post("a"))
        self.assertNotEqual(Post("a"), Post("b"))
        self.assertNotEqual(Post("a"), House("a"))
        self.assertNotEqual(Listener("a"), House("a"))
        self.assertNotEqual(Post("a"), "a")


class Kept(Refusing):
    """[0.2]: what is told is the asker's own, and asked again the same is told."""

    def asked_of(self, net):
        asked = [net.posts, net.names, net.listeners, net.ties, net.ordered]
        for name in net.names():
            asked += [lambda name=name: net.into(name), lambda name=name: net.out_of(name)]
        return asked

    def test_lists_told_are_new(self):
        net = drawn_net(random.Random(33), 9, 14, 3)
        before = state(net)
        for ask in self.asked_of(net):
            first = ask()
            self.assertIs(first.__class__, list)
            self.assertIsNot(ask(), first)
            self.assertEqual(ask(), first)
            first.reverse()
            first.append("more")
            self.assertEqual(state(net), before)
            first.clear()
            self.assertEqual(state(net), before)
        self.assertEqual(net.home(), net.home())

    def test_tuples_told_are_new(self):
        net = net_of(["a", "b"], [("a", "b")])
        self.assertIsNot(net.ties()[0], net.ties()[0])
        self.assertIs(net.ties()[0].__class__, tuple)

    def test_posts_told_are_the_askers_own(self):
        net = net_of(["h:home", "a", "l:bob"], [("home", "bob")])
        before = state(net)
        for post in net.posts():
            post.name = "other"
        self.assertEqual(state(net), before)

    def test_what_was_told_stays(self):
        net = net_of(["h:home", "a", "l:bob"], [("home", "bob")])
        before = state(net)
        told = state(net)
        net.listener("more")
        net.tie("home", "a")
        net.cut_tie(0)
        self.assertEqual(told, before)
        self.assertNotEqual(state(net), before)

    def test_asking_changes_nothing(self):
        net = drawn_net(random.Random(34), 9, 14, 3)
        greatest = net.ties()[-1][0]
        before = state(net)
        for ask in self.asked_of(net) * 2:
            ask()
        self.assertEqual(state(net), before)
        self.assertEqual(net.tie(net.ordered()[0], net.ordered()[-1]), greatest + 1)


if __name__ == "__main__":
    unittest.main()
