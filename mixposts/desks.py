"""The desk: a net and a plan of it, told and asked by lines."""

from mixposts.errors import NoLine, NoNumber, NoSuch, Unplanned
from mixposts.falls import mended
from mixposts.judges import judged
from mixposts.makers import plan_for
from mixposts.nets import Net
from mixposts.reading import is_written_number, net_text, put_line
from mixposts.rounds import run

NUMBER_FIGURES = 7
MESSAGE_FIGURES = 6
MOST_NUMBERS = 6
MOST_FALLS = 2
MOST_MESSAGES = 20


def check_count(words, many):
    if len(words) != many:
        raise NoLine(0)


def read_number(word, most_figures):
    if not is_written_number(word, most_figures):
        raise NoLine(0)
    return int(word)


def read_within(word, least, most):
    number = read_number(word, NUMBER_FIGURES)
    if not least <= number <= most:
        raise NoLine(0)
    return number


def read_rising(words):
    numbers = [read_number(word, NUMBER_FIGURES) for word in words]
    if not all([one < other for one, other in zip(numbers, numbers[1:])]):
        raise NoLine(0)
    return numbers


def read_messages(words):
    if len(words) > MOST_MESSAGES:
        raise NoLine(0)
    told = []
    for word in words:
        told.append([read_number(part, MESSAGE_FIGURES) for part in word.split(",")])
    return told


def number_words(numbers):
    return [str(number) for number in numbers]


def message_word(message):
    if message is None:
        return "-"
    return ",".join(number_words(message))


def judgement_text(listener, judgement):
    if judgement[0] == "reads":
        return " ".join([listener, "reads"])
    return " ".join([listener, "alike", message_word(judgement[1]), message_word(judgement[2])])


def reading_text(when, listener, turn, message):
    return " ".join([str(when), listener, str(turn), message_word(message)])


def parted(texts):
    if len(texts) == 0:
        return "none"
    return "; ".join(texts)


class Desk:
    def __init__(self):
        self.net = Net()
        # None as long as no plan is kept; the other two are those of the plan.
        self.plan = None
        self.many = 0
        self.prime = 0

    def say(self, line):
        words = line.split(" ")
        if words[0] == "cut":
            return self.cut(words[1:])
        if words[0] == "plan":
            return self.make_plan(words[1:])
        if words[0] == "judge":
            return self.judge(words[1:])
        if words[0] == "run":
            return self.send(words[1:])
        if line == "mend":
            return self.mend()
        if line == "show":
            return self.show()
        if line == "net":
            return net_text(self.net)
        return self.put_in(line)

    def put_in(self, line):
        number = put_line(self.net, line)
        if number is None:
            return "ok"
        return f"tie {number}"

    def cut(self, words):
        check_count(words, 1)
        self.net.cut_tie(read_number(words[0], NUMBER_FIGURES))
        return "ok"

    def make_plan(self, words):
        check_count(words, 3)
        many = read_within(words[0], 1, MOST_NUMBERS)
        prime = read_number(words[1], NUMBER_FIGURES)
        falls = read_within(words[2], 0, MOST_FALLS)
        self.plan = plan_for(self.net, many, prime, falls)
        self.many = many
        self.prime = prime
        return "ok"

    def check_planned(self):
        if self.plan is None:
            raise Unplanned()

    def mend(self):
        self.check_planned()
        told = mended(self.net, self.plan, self.many, self.prime)
        self.plan = told[0]
        if len(told[1]) == 0:
            return "none"
        return " ".join(number_words(told[1]))

    def show(self):
        self.check_planned()
        return parted([" ".join(number_words([number] + self.plan[number])) for number in self.plan])

    def judge(self, words):
        fallen = read_rising(words)
        self.check_planned()
        numbers = [tie[0] for tie in self.net.ties()]
        for number in fallen:
            if number not in numbers:
                raise NoSuch(number)
        told = judged(self.net, self.plan, self.many, self.prime, fallen)
        return parted([judgement_text(listener, told[listener]) for listener in told])

    def send(self, words):
        messages = read_messages(words)
        self.check_planned()
        for message in messages:
            self.check_message(message)
        told = run(self.net, self.plan, self.many, self.prime, messages)
        return parted([reading_text(when, listener, turn, message) for when, listener, turn, message in told])

    def check_message(self, message):
        if len(message) != self.many or max(message) >= self.prime:
            raise NoNumber()
