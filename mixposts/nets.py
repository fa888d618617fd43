"""Nets: a house, listeners and plain posts, and the one-way ties between them."""

from mixposts.errors import IntoHouse, NoName, NoNumber, NoPost, NoSuch, OneHouse, RingMade, Taken, TooMany

LETTERS = "abcdefghijklmnopqrstuvwxyz"
LONGEST_NAME = 8
MOST_POSTS = 20
MOST_LISTENERS = 8
MOST_TIES = 40
LONGEST_DELAY = 99


# Python's own tests for letters take those of every script, so the letters are written out.
def is_name(name):
    if not isinstance(name, str):
        return False
    return 1 <= len(name) <= LONGEST_NAME and all([sign in LETTERS for sign in name])


def is_whole(number):
    return isinstance(number, int) and not isinstance(number, bool)


def is_delay(number):
    return is_whole(number) and 1 <= number <= LONGEST_DELAY


def led_to(ties, start):
    reached = {start: True}
    waiting = [start]
    while len(waiting) > 0:
        name = waiting.pop()
        for number, one, other, delay in ties:
            if one == name and other not in reached:
                reached[other] = True
                waiting.append(other)
    return reached


# Where there are no rings, some post is always ready.
def first_ready(begins, told):
    for name in begins:
        if name not in told and all([one in told for one in begins[name]]):
            return name
    return None


class Post:
    def __init__(self, name):
        self.name = name

    # A net tells new posts each time, and the posts of two answers are to be the same.
    def __eq__(self, other):
        return isinstance(other, Post) and self.kind() == other.kind() and self.name == other.name

    def kind(self):
        return "post"

    def reads(self):
        return False

    def hears(self):
        return True

    def twin(self):
        return Post(self.name)


class House(Post):
    def kind(self):
        return "house"

    def hears(self):
        return False

    def twin(self):
        return House(self.name)


class Listener(Post):
    def kind(self):
        return "listener"

    def reads(self):
        return True

    def twin(self):
        return Listener(self.name)


class Net:
    def __init__(self):
        self.kept_posts = {}
        self.kept_ties = {}
        # Kept apart from the ties, as the number of a tie that was cut is not given again.
        self.next_number = 0

    def house(self, name):
        self.check_new_name(name)
        if self.home() is not None:
            raise OneHouse()
        self.put_in(House(name))

    def post(self, name):
        self.check_new_name(name)
        self.put_in(Post(name))

    def listener(self, name):
        self.check_new_name(name)
        self.put_in(Listener(name))

    def check_new_name(self, name):
        if not is_name(name):
            raise NoName()
        if name in self.kept_posts:
            raise Taken()

    def put_in(self, post):
        if len(self.kept_posts) >= MOST_POSTS:
            raise TooMany()
        if post.reads() and len(self.listeners()) >= MOST_LISTENERS:
            raise TooMany()
        self.kept_posts[post.name] = post

    def tie(self, one, other, delay=1):
        self.check_ends(one, other)
        if not is_delay(delay):
            raise NoNumber()
        if len(self.kept_ties) >= MOST_TIES:
            raise TooMany()
        number = self.next_number
        self.kept_ties[number] = (number, one, other, delay)
        self.next_number = number + 1
        return number

    def check_ends(self, one, other):
        self.check_there(one)
        self.check_there(other)
        if not self.kept_posts[other].hears():
            raise IntoHouse()
        if one in led_to(self.ties(), other):
            raise RingMade()

    def check_there(self, name):
        if name not in self.kept_posts:
            raise NoPost(name)

    def cut_tie(self, number):
        # Python takes True for 1 when it looks a number up.
        if not is_whole(number) or number not in self.kept_ties:
            raise NoSuch(number)
        self.kept_ties.pop(number)

    def posts(self):
        return [post.twin() for post in self.kept_posts.values()]

    def names(self):
        return list(self.kept_posts)

    def listeners(self):
        return [post.name for post in self.kept_posts.values() if post.reads()]

    def home(self):
        for post in self.kept_posts.values():
            if not post.hears():
                return post.name
        return None

    # Numbers are given rising, so the ties lie by number as they were put in.
    def ties(self):
        return [(number, one, other, delay) for number, one, other, delay in self.kept_ties.values()]

    def into(self, name):
        self.check_there(name)
        return [number for number, one, other, delay in self.ties() if other == name]

    def out_of(self, name):
        self.check_there(name)
        return [number for number, one, other, delay in self.ties() if one == name]

    def ordered(self):
        begins = dict([(name, []) for name in self.kept_posts])
        for number, one, other, delay in self.ties():
            begins[other].append(one)
        told = []
        while len(told) < len(begins):
            told.append(first_ready(begins, told))
        return told
