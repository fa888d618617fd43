"""A net's text written [3.5] and read [3.6], and [0.2] for both."""

import random
import unittest

from drawing import drawn_net, drawn_size, fresh_names
from mixposts.errors import NoLine, PostError
from mixposts.nets import Net
from mixposts.reading import net_text, read_net

GOOD_LINES = ("house home", "post ada", "listener bob", "tie home ada", "tie ada bob 7")
GOOD_TEXT = "\n".join(GOOD_LINES)

# Each of these is badly written, or refused, where the lines of GOOD_TEXT stand ahead of it.
BAD_LINES = (
    # Another word, or none.
    "", " ", "  ", "house", "post", "listener", "tie", "x", "net", "cut 0", "home x", "House x", "POST x",
    "Tie home bob", "posts x", "pos x", "listeners x", "ties home bob", "hous x", "x post y", "tie home", "postx",
    "tiehome bob",
    # A blank too many or too few, at each place.
    " post x", "post  x", "post x ", "post x y", "post ", "post  ", " listener x", "listener  x", "listener x ",
    "listener x y", "listener ", " house x", "house  x", "house x ", "house ",
    " tie home bob", "tie  home bob", "tie home  bob", "tie home bob ", "tie homebob", "tie home ", "tie  bob",
    " tie home bob 2", "tie  home bob 2", "tie home  bob 2", "tie home bob  2", "tie home bob 2 ", "tie home bob 2 3",
    "tie home bob2", "tie home bob 2 2 2", "tie home 2",
    # Other signs than the blank between the words, or other line ends.
    "post\tx", "tie\thome\tbob", "tie home bob\t2", "post\u00a0x", "post x\r", "tie home bob 2\r", "tie home bob\r",
    "post x\x0b", "post x\x0cpost y", "post x\x1cpost y", "post x\u2028post y", "post x\u0085post y", "post x\rpost y",
    # Delays that are not written so, or out of their range.
    "tie home bob 0", "tie home bob 00", "tie home bob 01", "tie home bob 07", "tie home bob 099", "tie home bob 100",
    "tie home bob 999", "tie home bob 1000", "tie home bob -1", "tie home bob +1", "tie home bob -0",
    "tie home bob 1.0", "tie home bob 1_0", "tie home bob x", "tie home bob 1x", "tie home bob 0x1", "tie home bob 1e1",
    "tie home bob \u0661", "tie home bob \u0967", "tie home bob \uff11", "tie home bob \u00b2", "tie home bob 1\u0661",
    "tie home bob \u2460", "tie home bob one",
    # Names that are none, are taken, or of nobody; a second house, ties into the house, rings.
    "post X", "post abcdefghi", "post a1", "post \u00e4", "post \u0430", "listener X", "listener x1", "house X",
    "post home", "post ada", "post bob", "listener home", "listener ada", "listener bob", "house home", "house ada",
    "house other", "tie x bob", "tie home x", "tie x x", "tie Home bob", "tie x bob 2", "tie ada home", "tie home home",
    "tie bob home 2", "tie bob ada", "tie ada ada", "tie bob ada 2", "tie bob bob 2",
)


def parts(net):
    """A net's posts, and its ties without their numbers."""
    return [(post.kind(), post.name) for post in net.posts()], [tie[1:] for tie in net.ties()]


class Written(unittest.TestCase):
    def test_nothing(self):
        self.assertEqual(net_text(Net()), "")

    def test_each_kind_of_line(self):
        net = Net()
        net.post("zoe")
        self.assertEqual(net_text(net), "post zoe")
        net.house("home")
        self.assertEqual(net_text(net), "post zoe\nhouse home")
        net.listener("abcdefgh")
        net.tie("home", "zoe")
        net.tie("zoe", "abcdefgh", 1)
        net.tie("zoe", "abcdefgh", 2)
        net.tie("zoe", "abcdefgh", 10)
        net.tie("home", "abcdefgh", 99)
        self.assertEqual(
            net_text(net),
            "post zoe\nhouse home\nlistener abcdefgh\ntie home zoe\ntie zoe abcdefgh\ntie zoe abcdefgh 2\n"
            "tie zoe abcdefgh 10\ntie home abcdefgh 99",
        )

    def test_posts_ahead_of_ties(self):
        net = Net()
        net.post("a")
        net.post("b")
        net.tie("b", "a", 9)
        net.listener("c")
        net.tie("a", "c")
        self.assertEqual(net_text(net), "post a\npost b\nlistener c\ntie b a 9\ntie a c")

    def test_every_delay(self):
        for delay in range(2, 100):
            net = Net()
            net.post("a")
            net.post("b")
            net.tie("a", "b", delay)
            self.assertEqual(net_text(net), "post a\npost b\ntie a b " + str(delay))

    def test_with_numbers_that_were_cut(self):
        net = read_net("post a\npost b\nlistener c\ntie a b 2\ntie a c 3\ntie b c 4\ntie a b 5")
        net.cut_tie(0)
        net.cut_tie(2)
        net.tie("a", "b", 6)
        self.assertEqual(net_text(net), "post a\npost b\nlistener c\ntie a c 3\ntie a b 5\ntie a b 6")
        for number in (1, 3, 4):
            net.cut_tie(number)
        self.assertEqual(net_text(net), "post a\npost b\nlistener c")


class Read(unittest.TestCase):
    def test_without_signs(self):
        net = read_net("")
        self.assertIsInstance(net, Net)
        self.assertEqual(parts(net), ([], []))
        self.assertEqual(net.home(), None)

    def test_every_kind_of_line(self):
        net = read_net(GOOD_TEXT)
        self.assertIsInstance(net, Net)
        self.assertEqual(
            parts(net), ([("house", "home"), ("post", "ada"), ("listener", "bob")],
                         [("home", "ada", 1), ("ada", "bob", 7)])
        )
        self.assertEqual([tie[0] for tie in net.ties()], [0, 1])

    def test_lines_of_ties_between_lines_of_posts(self):
        net = read_net(
            "listener bob\npost ada\ntie ada bob 3\nhouse home\ntie home ada\npost c\ntie ada c 99\ntie c bob"
        )
        self.assertEqual(net.names(), ["bob", "ada", "home", "c"])
        self.assertEqual(
            net.ties(), [(0, "ada", "bob", 3), (1, "home", "ada", 1), (2, "ada", "c", 99), (3, "c", "bob", 1)]
        )
        self.assertEqual(
            net_text(net),
            "listener bob\npost ada\nhouse home\npost c\ntie ada bob 3\ntie home ada\ntie ada c 99\ntie c bob",
        )

    def test_a_delay_of_one_written(self):
        net = read_net("post a\npost b\ntie a b 1")
        self.assertEqual(net.ties(), [(0, "a", "b", 1)])
        self.assertEqual(net_text(net), "post a\npost b\ntie a b")

    def test_every_delay(self):
        for delay in range(1, 100):
            self.assertEqual(read_net("post a\npost b\ntie a b " + str(delay)).ties(), [(0, "a", "b", delay)])

    def test_words_as_names(self):
        net = read_net("post tie\npost post\nlistener house\nhouse listener\ntie tie post\ntie listener house 2")
        self.assertEqual(net.names(), ["tie", "post", "house", "listener"])
        self.assertEqual(net.ties(), [(0, "tie", "post", 1), (1, "listener", "house", 2)])

    def test_as_large_as_a_net_may_be(self):
        names = fresh_names(20)
        lines = ["house " + names[0]] + ["listener " + name for name in names[1:9]]
        lines += ["post " + name for name in names[9:]] + ["tie {} {} 99".format(names[0], names[1])] * 40
        net = read_net("\n".join(lines))
        self.assertEqual((len(net.names()), len(net.listeners()), len(net.ties())), (20, 8, 40))
        self.assertEqual(net_text(net), "\n".join(lines))

    def test_read_and_written_again(self):
        source = random.Random(35)
        for turn in range(150):
            net = drawn_net(source, *drawn_size(source, 20, 40), house=turn % 5 > 0)
            text = net_text(net)
            again = read_net(text)
            self.assertEqual(parts(again), parts(net))
            self.assertEqual([tie[0] for tie in again.ties()], list(range(len(net.ties()))))
            self.assertEqual(net_text(again), text)


class Refused(unittest.TestCase):
    def refused(self, text, number):
        with self.assertRaises(PostError, msg=repr(text)) as taken:
            read_net(text)
        self.assertIs(taken.exception.__class__, NoLine, repr(text))
        self.assertEqual(taken.exception.number, number, repr(text))

    def test_bad_lines_at_the_end(self):
        for line in BAD_LINES:
            self.refused(GOOD_TEXT + "\n" + line, 5)

    def test_bad_lines_between(self):
        for line in BAD_LINES:
            self.refused(GOOD_TEXT + "\n" + line + "\npost yet\ntie ada yet", 5)

    def test_the_first_of_several_bad_lines(self):
        for line in BAD_LINES:
            self.refused(GOOD_TEXT + "\npost yet\n" + line + "\nx\n" + line, 6)
            self.refused(GOOD_TEXT + "\nx\n" + line, 5)

    def test_what_stands_behind_is_good_by_itself(self):
        read_net(GOOD_TEXT + "\npost yet\ntie ada yet")

    def test_a_line_without_signs(self):
        self.refused("\n", 0)
        self.refused("\n\n", 0)
        self.refused("\npost a", 0)
        self.refused("post a\n", 1)
        self.refused("post a\n\npost b", 1)
        self.refused("post a\npost b\n\n", 2)

    def test_a_bad_first_line(self):
        for text in (" ", "x", "post", "post A", "tie a b", "tie a a", "post a ", "post a\r\npost b"):
            self.refused(text, 0)

    def test_posts_told_only_later(self):
        self.refused("tie a b\npost a\npost b", 0)
        self.refused("post a\ntie a b\npost b", 1)
        self.refused("post b\ntie a b\npost a", 1)

    def test_a_second_house(self):
        self.refused("house a\npost b\nhouse c", 2)

    def test_rings(self):
        self.refused("post a\ntie a a", 1)
        self.refused("post a\npost b\npost c\ntie a b\ntie b c\ntie c a", 5)

    def test_the_bounds(self):
        names = fresh_names(20)
        self.refused("\n".join(["post " + name for name in names] + ["post more"]), 20)
        self.refused("\n".join(["listener " + name for name in names[:8]] + ["listener more"]), 8)
        self.refused("\n".join(["post a", "post b"] + ["tie a b"] * 41), 42)

    def test_a_refusal_leaves_nothing_behind(self):
        self.refused("house a\npost b\ntie a b\nx", 3)
        self.assertEqual(parts(read_net("")), ([], []))
        self.assertEqual(read_net("post a\npost b\ntie b a").ties(), [(0, "b", "a", 1)])


class Kept(unittest.TestCase):
    """[0.2]: the nets stay apart, and asked again the same is told."""

    def test_writing_changes_nothing(self):
        net = read_net(GOOD_TEXT)
        before = (parts(net), net.ties())
        self.assertEqual(net_text(net), net_text(net))
        self.assertEqual((parts(net), net.ties()), before)
        self.assertEqual(net.tie("home", "bob"), 2)

    def test_what_is_done_to_one_changes_nothing_in_the_other(self):
        net = read_net(GOOD_TEXT)
        again = read_net(net_text(net))
        net.post("more")
        net.tie("ada", "more")
        net.cut_tie(0)
        self.assertEqual(net_text(again), GOOD_TEXT)
        before = net_text(net)
        again.listener("other")
        again.cut_tie(1)
        self.assertEqual(again.tie("ada", "other"), 2)
        self.assertEqual(net_text(net), before)
        self.assertEqual(net.tie("ada", "bob"), 3)

    def test_the_same_text_twice(self):
        one = read_net(GOOD_TEXT)
        other = read_net(GOOD_TEXT)
        one.cut_tie(0)
        self.assertEqual(net_text(other), GOOD_TEXT)
        self.assertEqual(other.posts(), read_net(GOOD_TEXT).posts())


if __name__ == "__main__":
    unittest.main()
