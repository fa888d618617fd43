"""The desk: each line and its answer [10.1], what is refused, in its order [10.2], and [0.2] for it."""

import random
import unittest

from carrying import comes_to
from drawing import drawn_fallen, drawn_numbers, drawn_rich_net
from mixposts.desks import Desk
from mixposts.errors import (
    Cut, IntoHouse, NoLine, NoName, NoNumber, NoPlan, NoPost, NoPrime, NoSuch, OneHouse, PostError, RingMade,
    SmallPrime, Taken, TooMany, Unplanned,
)
from mixposts.falls import mended
from mixposts.judges import judged
from mixposts.makers import plan_for
from mixposts.reading import net_text, read_net
from mixposts.rounds import run

MIXING = (
    "house home\npost a\npost b\npost c\npost d\nlistener y\nlistener x\n"
    "tie home a\ntie home b 3\ntie a c\ntie b c\ntie c d 10\ntie a x\ntie d x\ntie b y\ntie d y 2"
)
STRAIGHT = "house home\nlistener bob\ntie home bob\ntie home bob\ntie home bob"


def desk_with(text, *more):
    desk = Desk()
    for line in text.split("\n") + list(more):
        desk.say(line)
    return desk


def plan_of(shown):
    """The plan out of what show answers."""
    rows = [[int(word) for word in tie.split(" ")] for tie in shown.split("; ")]
    return {row[0]: row[1:] for row in rows}


def message_word(message):
    return "-" if message is None else ",".join(str(number) for number in message)


def kept_by(desk):
    """All that a desk keeps, as far as it can be asked."""
    told = []
    for line in ("net", "show", "judge", "run", "run 1", "run 1,0", "run 1,0,0", "run 4", "run 100"):
        try:
            told.append(desk.say(line))
        except PostError as error:
            told.append((error.__class__, vars(error)))
    return told


class Talking(unittest.TestCase):
    def answers(self, desk, *talk):
        for line, answer in talk:
            told = desk.say(line)
            self.assertIs(told.__class__, str)
            self.assertEqual(told, answer, line)

    def refused(self, desk, line, kind, **fields):
        kept = kept_by(desk)
        with self.assertRaises(PostError, msg=line) as taken:
            desk.say(line)
        self.assertIs(taken.exception.__class__, kind, line)
        self.assertEqual({name: getattr(taken.exception, name) for name in fields}, fields, line)
        self.assertEqual(kept_by(desk), kept, line)


class WholeTalks(Talking):
    def test_a_net_put_in_planned_changed_and_mended(self):
        desk = Desk()
        self.answers(
            desk, ("net", ""), ("house home", "ok"), ("post a", "ok"), ("listener bob", "ok"), ("tie home a", "tie 0"),
            ("tie a bob 7", "tie 1"), ("tie home bob 1", "tie 2"),
            ("net", "house home\npost a\nlistener bob\ntie home a\ntie a bob 7\ntie home bob"),
            ("plan 2 5 0", "ok"), ("judge", "bob reads"),
        )
        first = plan_of(desk.say("show"))
        self.assertEqual(first, plan_for(read_net(desk.say("net")), 2, 5))
        self.answers(
            desk, ("run", "none"), ("run 4,3", "8 bob 0 4,3"),
            ("run 4,3 0,0 1,2", "8 bob 0 4,3; 9 bob 1 0,0; 10 bob 2 1,2"), ("cut 1", "ok"),
            ("net", "house home\npost a\nlistener bob\ntie home a\ntie home bob"),
        )
        self.refused(desk, "judge", NoPlan, number=1)
        self.refused(desk, "run 1,1", NoPlan, number=1)
        self.refused(desk, "mend", Cut, fallen=[], name="bob", numbers=[2])
        self.assertEqual(plan_of(desk.say("show")), first)
        self.answers(desk, ("tie a bob 9", "tie 3"), ("mend", "3"))
        second = plan_of(desk.say("show"))
        self.assertEqual(list(second), [0, 2, 3])
        self.answers(
            desk, ("mend", "none"), ("judge", "bob reads"), ("run 4,3", "10 bob 0 4,3"),
            ("net", "house home\npost a\nlistener bob\ntie home a\ntie home bob\ntie a bob 9"),
        )
        self.assertEqual(plan_of(desk.say("show")), second)

    def test_two_listeners(self):
        desk = desk_with("listener bob\nlistener al\nhouse home\ntie home bob 2\ntie home al 99")
        self.answers(
            desk, ("plan 1 2 0", "ok"), ("show", "0 1; 1 1"), ("judge", "bob reads; al reads"),
            ("run 1 0", "2 bob 0 1; 3 bob 1 0; 99 al 0 1; 100 al 1 0"),
        )
        # In the prime 2 there are but two messages of one number.
        for line, bob, al in (("judge 0", "alike", "reads"), ("judge 1", "reads", "alike"),
                              ("judge 0 1", "alike", "alike")):
            parts = [part.split(" ") for part in desk.say(line).split("; ")]
            self.assertEqual([part[:2] for part in parts], [["bob", bob], ["al", al]])
            for part in parts:
                self.assertEqual(sorted(part[2:]), ["0", "1"] if part[1] == "alike" else [])

    def test_nothing_put_in(self):
        self.answers(
            Desk(), ("net", ""), ("plan 6 2 2", "ok"), ("show", "none"), ("judge", "none"), ("run", "none"),
            ("run 1,1,1,1,1,1 0,0,0,0,0,0", "none"), ("mend", "none"), ("net", ""),
        )

    def test_without_listeners(self):
        desk = desk_with("house home\npost a\ntie home a")
        self.answers(desk, ("plan 2 5 1", "ok"), ("judge", "none"), ("judge 0", "none"), ("run 1,2", "none"))
        self.assertEqual(len(plan_of(desk.say("show"))[0]), 2)

    def test_a_listener_that_can_not_read(self):
        desk = desk_with("house home\nlistener bob\ntie home bob 3", "plan 1 3 0", "listener lone")
        self.answers(desk, ("run 2 1", "0 lone 0 -; 1 lone 1 -; 3 bob 0 2; 4 bob 1 1"))
        told = desk.say("judge").split("; ")
        self.assertEqual(told[0], "bob reads")
        self.assertEqual(told[1].split(" ")[:2], ["lone", "alike"])
        self.assertEqual(len(set(told[1].split(" ")[2:])), 2)

    def test_a_tie_without_multipliers(self):
        desk = desk_with("house home\npost idle\nlistener bob\ntie idle bob\ntie home bob")
        self.answers(desk, ("plan 1 2 0", "ok"), ("show", "0; 1 1"), ("judge", "bob reads"), ("run 1", "1 bob 0 1"))

    def test_several_ties_that_change(self):
        desk = desk_with("house home\npost a\nlistener bob\ntie home a\ntie a bob", "plan 1 5 0")
        self.answers(desk, ("post b", "ok"), ("tie home b", "tie 2"), ("tie b a", "tie 3"))
        told = [int(word) for word in desk.say("mend").split(" ")]
        self.assertTrue({1, 2, 3} <= set(told))
        self.assertEqual(told, sorted(set(told)))

    def test_mend_takes_the_kept_plan_as_it_is(self):
        desk = desk_with("house home\nlistener bob\ntie home bob\ntie home bob", "plan 1 5 1", "cut 0")
        self.refused(desk, "judge", NoPlan, number=0)
        self.refused(desk, "run 1", NoPlan, number=0)
        self.assertEqual(list(plan_of(desk.say("show"))), [0, 1])
        self.answers(desk, ("mend", "none"), ("judge", "bob reads"))
        self.assertEqual(list(plan_of(desk.say("show"))), [1])

    def test_mend_goes_by_the_count_and_the_prime_that_are_kept(self):
        desk = desk_with(STRAIGHT, "plan 2 101 1", "plan 3 5 0", "tie home bob")
        self.assertIn("3", desk.say("mend").split(" "))
        self.answers(desk, ("mend", "none"), ("judge", "bob reads"), ("run 4,4,4", "1 bob 0 4,4,4"))
        self.refused(desk, "run 5,4,4", NoNumber)
        self.refused(desk, "run 4,4", NoNumber)

    def test_a_kept_plan_gives_way_to_a_new_one_alone(self):
        desk = desk_with(STRAIGHT, "plan 3 7 0")
        for line in ("plan 4 7 0", "plan 3 7 1", "plan 1 5 2", "plan 1 6 0", "plan 7 7 0", "plan 1 5"):
            kept = desk.say("show")
            with self.assertRaises(PostError):
                desk.say(line)
            self.answers(desk, ("show", kept), ("run 6,5,4", "1 bob 0 6,5,4"))
        self.answers(desk, ("plan 1 11 2", "ok"), ("run 10", "1 bob 0 10"))
        self.refused(desk, "run 6,5,4", NoNumber)

    def test_plans_that_stand_falls(self):
        desk = desk_with("house home\nlistener bob" + "\ntie home bob" * 4, "plan 2 11 2")
        self.assertEqual(plan_of(desk.say("show")), plan_for(read_net(desk.say("net")), 2, 11, 2))
        for one in range(4):
            for other in range(one + 1, 4):
                self.answers(desk, (f"judge {one} {other}", "bob reads"))
        self.assertEqual(desk.say("judge 0 1 2").split(" ")[:2], ["bob", "alike"])

    def test_alike_messages_come_alike(self):
        desk = desk_with(MIXING, "plan 2 5 0")
        net = read_net(MIXING)
        plan = plan_of(desk.say("show"))
        for fallen in ([0], [3], [4], [0, 1], [2, 5, 8], list(range(9))):
            told = desk.say(" ".join(["judge"] + [str(number) for number in fallen])).split("; ")
            self.assertEqual([part.split(" ")[0] for part in told], ["y", "x"])
            self.assertIn("alike", " ".join(told))
            for words in [part.split(" ") for part in told]:
                if words[1:] == ["reads"]:
                    continue
                self.assertEqual((words[1], len(words)), ("alike", 4))
                one, other = [[int(number) for number in word.split(",")] for word in words[2:]]
                self.assertNotEqual(one, other)
                self.assertEqual(comes_to(net, plan, one, 5, fallen, words[0]),
                                 comes_to(net, plan, other, 5, fallen, words[0]))

    def test_the_greatest_numbers(self):
        desk = desk_with("house home\nlistener bob" + "\ntie home bob 99" * 6, "plan 6 999983 0")
        self.answers(desk, ("run" + " 999982,0,999982,1,100000,99999" * 20, "; ".join(
            f"{turn + 99} bob {turn} 999982,0,999982,1,100000,99999" for turn in range(20)
        )))

    def test_two_desks(self):
        one = desk_with("house home\nlistener bob\ntie home bob", "plan 1 5 0")
        other = Desk()
        self.answers(other, ("net", ""))
        self.refused(other, "show", Unplanned)
        self.answers(one, ("show", "0 1"))

    def test_lines_of_a_net_s_text_in_any_order(self):
        desk = Desk()
        self.answers(
            desk, ("listener bob", "ok"), ("post a", "ok"), ("tie a bob 99", "tie 0"), ("house home", "ok"),
            ("tie home a 10", "tie 1"), ("cut 0", "ok"), ("tie a bob", "tie 2"), ("post b", "ok"),
            ("net", "listener bob\npost a\nhouse home\npost b\ntie home a 10\ntie a bob"),
        )


class AsTheFunctions(Talking):
    """What a function leaves free, the desk tells as the function does."""

    def test_drawn_talks(self):
        source = random.Random(101)
        mends = 0
        for turn in range(60):
            width = source.randrange(1, 4)
            text = net_text(drawn_rich_net(source, source.randrange(2, 8), width, idle=turn % 2))
            desk = desk_with(text)
            net = read_net(text)
            many = source.randrange(1, width + 1)
            self.answers(desk, (f"plan {many} 101 0", "ok"))
            self.same(source, desk, net, plan_for(net, many, 101), many)
            self.change(source, desk, net)
            mends += self.mends(source, desk, net, plan_for(read_net(text), many, 101), many)
        self.assertTrue(10 < mends < 50, mends)

    def change(self, source, desk, net):
        number = source.choice(net.ties())[0]
        net.cut_tie(number)
        self.answers(desk, (f"cut {number}", "ok"))
        one, other = [net.ordered()[at] for at in sorted(source.sample(range(len(net.names())), 2))]
        if other != net.home():
            self.answers(desk, (f"tie {one} {other} 5", f"tie {net.tie(one, other, 5)}"))

    def mends(self, source, desk, net, old, many):
        try:
            plan, changed = mended(net, old, many, 101)
        except Cut as error:
            self.refused(desk, "mend", Cut, fallen=error.fallen, name=error.name, numbers=error.numbers)
            return False
        self.answers(desk, ("mend", " ".join(str(number) for number in changed) or "none"))
        self.same(source, desk, net, plan, many)
        return True

    def same(self, source, desk, net, plan, many):
        shown = "; ".join(" ".join(str(each) for each in [number] + row) for number, row in plan.items())
        self.answers(desk, ("net", net_text(net)), ("show", shown or "none"))
        fallen = drawn_fallen(source, net)
        told = [" ".join([name, "reads"] if judgement[0] == "reads" else
                         [name, "alike", message_word(judgement[1]), message_word(judgement[2])])
                for name, judgement in judged(net, plan, many, 101, fallen).items()]
        self.answers(desk, (" ".join(["judge"] + [str(number) for number in fallen]), "; ".join(told)))
        messages = [drawn_numbers(source, many, 101) for turn in range(source.randrange(1, 21))]
        told = [f"{time} {name} {turn} {message_word(message)}"
                for time, name, turn, message in run(net, plan, many, 101, messages)]
        self.answers(desk, (" ".join(["run"] + [message_word(message) for message in messages]), "; ".join(told)))


NO_LINES = (
    # None of the kinds.
    "", " ", "  ", "hello", "HOUSE home", "House home", "nets", "plans 1 5 0", "none", "ok", "ring a b", "0", "-", ";",
    " net", " house home", " show", "\nnet", "net\n", "show\n", "mend\n", "net\tnet", "tie", "house", "listener",
    "post", "post\thome", "cut", "plan", "mend;", "\u0441ut 0",
    # A word too many or too few, a blank too many where no name may stand.
    "house home home", "house  home", "house home ", "listener  bob", "post a ", "post  ", "tie a", "tie ",
    "tie a b 1 1", "tie a b 1 ", "tie a b ", "tie a b  1", "tie  a b c", "net ", "net  ", "net net", "show ", "show 0",
    "show show", "mend ", "mend 0", "mend 1 5 0", "cut ", "cut 0 ", "cut  0", "cut 0 0", "cut 0 1", "plan 1",
    "plan 1 5", "plan 1 5 0 ", "plan  1 5 0", "plan 1  5 0", "plan 1 5  0", "plan 1 5 0 0", "plan 1 5 ", "plan 1  0",
    "plan  5 0", "judge ", "judge  ", "judge  0", "judge 0 ", "judge 0  1", "run ", "run  ", "run  1", "run 1 ",
    "run 1  1",
    # Delays.
    "tie home bob 01", "tie home bob 00", "tie home bob 100", "tie home bob 099", "tie home bob -1", "tie home bob +1",
    "tie home bob one", "tie home bob 1.0", "tie home bob 1_0", "tie home bob \u0661", "tie home bob 1\n",
    # Numbers of ties.
    "cut 00", "cut 01", "cut -1", "cut +1", "cut x", "cut 1.0", "cut 1,0", "cut 1_0", "cut 12345678", "cut 00000000",
    "cut \u0661", "cut \u00b2", "cut 1\n", "cut 0x1", "judge 00", "judge 01", "judge 0 01", "judge -1", "judge +1",
    "judge x", "judge 0 x", "judge 12345678", "judge 0,1", "judge 0;1", "judge \u0661", "judge 0 0", "judge 1 0",
    "judge 0 2 1", "judge 1 1", "judge 0 1 1", "judge 2 1 9", "judge bob",
    # Plans.
    "plan 0 5 0", "plan 7 5 0", "plan 10 5 0", "plan 01 5 0", "plan -1 5 0", "plan +1 5 0", "plan x 5 0", "plan 1 5 3",
    "plan 1 5 10", "plan 1 5 00", "plan 1 5 01", "plan 1 5 -1", "plan 1 5 x", "plan 1 05 0", "plan 1 -5 0",
    "plan 1 +5 0", "plan 1 x 0", "plan 1 10000019 0", "plan 1 0000005 0", "plan 1 5.0 0", "plan 1 \u0665 0",
    "plan 1,5,0", "plan \u0661 5 0", "plan 1 5 \u0661", "plan 1 5 1000000",
    # Messages.
    "run x", "run 1,x", "run ,", "run 1,", "run ,1", "run 1,,1", "run 01", "run 1,00", "run 00", "run -1", "run +1",
    "run 1;1", "run 1.0", "run 1000000", "run 1,1000000", "run 1 x", "run -", "run \u0661", "run 1,1\n", "run 1, 1",
    "run" + " 1" * 21, "run" + " 1,1" * 21,
)


class NoLines(Talking):
    """Refused by how they are written, whatever the desk keeps."""

    def every(self, desk):
        for line in NO_LINES:
            self.refused(desk, line, NoLine, number=0)

    def test_nothing_put_in(self):
        self.every(Desk())

    def test_with_a_net(self):
        self.every(desk_with(STRAIGHT + "\npost a\npost b\npost c"))

    def test_with_a_plan(self):
        self.every(desk_with(STRAIGHT + "\npost a\npost b\npost c", "plan 1 5 0"))

    def test_with_a_plan_that_does_not_fit(self):
        self.every(desk_with(STRAIGHT, "plan 1 5 0", "cut 0"))

    def test_as_many_figures_as_may_be(self):
        desk = desk_with(STRAIGHT, "plan 1 999983 0")
        self.refused(desk, "cut 1234567", NoSuch, number=1234567)
        self.refused(desk, "cut 9999999", NoSuch, number=9999999)
        self.refused(desk, "judge 9999999", NoSuch, number=9999999)
        self.refused(desk, "plan 1 9999999 0", NoPrime)
        self.refused(desk, "plan 1 0 0", NoPrime)
        self.refused(desk, "run 999983", NoNumber)
        self.refused(desk, "run 999999", NoNumber)
        self.answers(desk, ("run 999982 0 100000", "1 bob 0 999982; 2 bob 1 0; 3 bob 2 100000"))

    def test_twenty_messages_may_be(self):
        desk = desk_with(STRAIGHT, "plan 1 5 0")
        self.answers(desk, ("run" + " 3" * 20, "; ".join(f"{turn + 1} bob {turn} 3" for turn in range(20))))


class WordsWithoutSigns(Talking):
    """Where two blanks stand, or one at the end, a word without signs is a name, refused as such."""

    def test_posts(self):
        desk = desk_with("house home\npost a")
        for line in ("house ", "listener ", "post "):
            self.refused(desk, line, NoName)

    def test_ties(self):
        desk = desk_with("house home\npost a")
        for line, name in (("tie  ", ""), ("tie  a", ""), ("tie a ", ""), ("tie   5", ""), ("tie  a 5", ""),
                           ("tie a  5", ""), ("tie nobody ", "nobody"), ("tie  nobody", ""), ("tie home  0", "")):
            self.refused(desk, line, NoPost, name=name)
        # A delay is no name.
        self.refused(desk, "tie   ", NoLine, number=0)


class Unplanneds(Talking):
    def test_where_no_plan_is_kept(self):
        for desk in (Desk(), desk_with(STRAIGHT)):
            for line in ("mend", "show", "judge", "judge 0", "judge 0 1", "judge 7", "run", "run 1", "run 1,2 3",
                         "run 999999"):
                self.refused(desk, line, Unplanned)

    def test_a_plan_that_was_refused_is_not_kept(self):
        desk = desk_with(STRAIGHT)
        for line in ("plan 4 5 0", "plan 1 4 0", "plan 1 3 1", "plan 9 5 0"):
            with self.assertRaises(PostError):
                desk.say(line)
            self.refused(desk, "show", Unplanned)

    def test_behind_no_line(self):
        desk = desk_with(STRAIGHT)
        for line in ("mend ", "show 1", "judge x", "judge 1 0", "judge 7 7", "run x", "run 1,", "run" + " 1" * 21):
            self.refused(desk, line, NoLine, number=0)


class JudgeRefused(Talking):
    def test_the_first_number_that_no_tie_has(self):
        desk = desk_with(STRAIGHT, "plan 1 5 0")
        for line, number in (("judge 3", 3), ("judge 0 3", 3), ("judge 3 4", 3), ("judge 0 1 2 5 9", 5),
                             ("judge 9999999", 9999999)):
            self.refused(desk, line, NoSuch, number=number)

    def test_a_tie_that_was_cut(self):
        desk = desk_with(STRAIGHT, "plan 1 5 0", "cut 1", "mend")
        self.refused(desk, "judge 1", NoSuch, number=1)
        self.refused(desk, "judge 0 1 2", NoSuch, number=1)
        self.answers(desk, ("judge", "bob reads"))

    def test_ahead_of_a_plan_that_does_not_fit(self):
        desk = desk_with(STRAIGHT, "plan 1 5 0", "cut 1")
        self.refused(desk, "judge 1", NoSuch, number=1)
        self.refused(desk, "judge 2 3", NoSuch, number=3)
        self.refused(desk, "judge 0", NoPlan, number=1)
        self.refused(desk, "judge", NoPlan, number=1)
        desk.say("tie home bob")
        self.refused(desk, "judge 3", NoPlan, number=3)
        self.refused(desk, "judge 1", NoSuch, number=1)


class RunRefused(Talking):
    def test_another_count_of_numbers(self):
        desk = desk_with(STRAIGHT, "plan 2 5 0")
        for line in ("run 1", "run 1,1,1", "run 1,1 1", "run 1,1 1,1,1 1,1", "run 1,1,1,1,1,1,1", "run 1 1,1"):
            self.refused(desk, line, NoNumber)

    def test_a_number_that_is_not_below_the_prime(self):
        desk = desk_with(STRAIGHT, "plan 2 5 0")
        for line in ("run 5,0", "run 0,5", "run 6,1", "run 1,1 1,5", "run 1,1 1,1 999999,0"):
            self.refused(desk, line, NoNumber)
        self.answers(desk, ("run 4,0", "1 bob 0 4,0"))

    def test_without_listeners(self):
        desk = desk_with("house home", "plan 2 5 0")
        self.refused(desk, "run 1", NoNumber)
        self.refused(desk, "run 5,5", NoNumber)

    def test_ahead_of_a_plan_that_does_not_fit(self):
        desk = desk_with(STRAIGHT, "plan 2 5 0", "tie home bob")
        self.refused(desk, "run 1", NoNumber)
        self.refused(desk, "run 1,5", NoNumber)
        self.refused(desk, "run 1,4", NoPlan, number=3)
        self.refused(desk, "run", NoPlan, number=3)


class StagesRefuse(Talking):
    def test_posts(self):
        desk = desk_with("house home\npost a\nlistener bob")
        for line in ("post A", "post a1", "listener abcdefghi", "house a-b", "post a\tb", "post \u00e4", "house HOME",
                     "post 1"):
            self.refused(desk, line, NoName)
        for line in ("post home", "listener a", "house bob", "house home"):
            self.refused(desk, line, Taken)
        self.refused(desk, "house new", OneHouse)

    def test_too_many_posts(self):
        desk = desk_with("\n".join("listener l" + sign for sign in "abcdefgh"))
        self.refused(desk, "listener more", TooMany)
        for sign in "abcdefghijkl":
            desk.say("post p" + sign)
        for line in ("post more", "house more", "listener more"):
            self.refused(desk, line, TooMany)

    def test_ties(self):
        desk = desk_with("house home\npost a\nlistener bob\ntie home a\ntie a bob")
        self.refused(desk, "tie x y", NoPost, name="x")
        self.refused(desk, "tie a y", NoPost, name="y")
        self.refused(desk, "tie x a 0", NoPost, name="x")
        self.refused(desk, "tie A home", NoPost, name="A")
        self.refused(desk, "tie a home", IntoHouse)
        self.refused(desk, "tie home home 0", IntoHouse)
        self.refused(desk, "tie bob a", RingMade)
        self.refused(desk, "tie a a 0", RingMade)
        self.refused(desk, "tie a bob 0", NoNumber)
        self.answers(desk, ("tie a bob 99", "tie 2"), ("tie a bob 9", "tie 3"))

    def test_too_many_ties(self):
        desk = desk_with("house home\nlistener bob" + "\ntie home bob" * 40)
        self.refused(desk, "tie home bob", TooMany)
        self.refused(desk, "tie home bob 0", NoNumber)
        self.answers(desk, ("cut 39", "ok"), ("tie home bob", "tie 40"))

    def test_cuts_of_ties(self):
        desk = desk_with(STRAIGHT)
        self.refused(desk, "cut 3", NoSuch, number=3)
        self.answers(desk, ("cut 2", "ok"))
        self.refused(desk, "cut 2", NoSuch, number=2)
        self.refused(Desk(), "cut 0", NoSuch, number=0)

    def test_plans(self):
        for desk in (desk_with(STRAIGHT), desk_with(STRAIGHT, "plan 1 5 0")):
            for prime in (0, 1, 4, 9, 999999, 1000000, 1000003, 9999991):
                self.refused(desk, f"plan 6 {prime} 2", NoPrime)
            self.refused(desk, "plan 4 5 0", Cut, fallen=[], name="bob", numbers=[0, 1, 2])
            self.refused(desk, "plan 3 2 1", Cut, fallen=[0], name="bob", numbers=[1, 2])
            self.refused(desk, "plan 2 2 2", Cut, fallen=[0, 1], name="bob", numbers=[2])
            self.refused(desk, "plan 2 3 1", SmallPrime, needed=4)
            self.refused(desk, "plan 1 5 2", SmallPrime, needed=7)

    def test_mend(self):
        desk = desk_with("house home\nlistener a\nlistener b\ntie home a\ntie home b", "plan 1 2 0", "listener c")
        self.refused(desk, "mend", Cut, fallen=[], name="c", numbers=[])
        desk.say("tie home c")
        self.refused(desk, "mend", SmallPrime, needed=3)
        self.answers(desk, ("cut 2", "ok"), ("show", "0 1; 1 1"),
                     ("net", "house home\nlistener a\nlistener b\nlistener c\ntie home a\ntie home b"))


if __name__ == "__main__":
    unittest.main()
