"""A net's text: written, and read line by line."""

from mixposts.errors import NoLine, PostError
from mixposts.nets import Net

FIGURES = "0123456789"
DELAY_FIGURES = 2
LEFT_OUT_DELAY = 1


def post_line(post):
    return " ".join([post.kind(), post.name])


def tie_line(one, other, delay):
    words = ["tie", one, other]
    if delay != LEFT_OUT_DELAY:
        words.append(str(delay))
    return " ".join(words)


def net_text(net):
    lines = [post_line(post) for post in net.posts()]
    lines.extend([tie_line(one, other, delay) for number, one, other, delay in net.ties()])
    return "\n".join(lines)


# Python's own reading of numbers takes signs ahead, blanks and other scripts' figures, too.
def is_written_number(word, most_figures):
    if not 1 <= len(word) <= most_figures or not all([sign in FIGURES for sign in word]):
        return False
    return word == "0" or word[0] != "0"


# A line by itself is the first one of its text: where it is badly written, its number is 0.
def put_post(net, words):
    if len(words) != 2:
        raise NoLine(0)
    if words[0] == "house":
        net.house(words[1])
    elif words[0] == "listener":
        net.listener(words[1])
    elif words[0] == "post":
        net.post(words[1])
    else:
        raise NoLine(0)


def put_tie(net, words):
    if len(words) == 3:
        return net.tie(words[1], words[2], LEFT_OUT_DELAY)
    if len(words) == 4 and is_written_number(words[3], DELAY_FIGURES):
        return net.tie(words[1], words[2], int(words[3]))
    raise NoLine(0)


# Tells the number of a tie, None for a post.
def put_line(net, line):
    words = line.split(" ")
    if words[0] == "tie":
        return put_tie(net, words)
    put_post(net, words)
    return None


def read_net(text):
    net = Net()
    # Split, a text without signs would be one line without signs, which is none.
    if text == "":
        return net
    for number, line in enumerate(text.split("\n")):
        try:
            put_line(net, line)
        except PostError as error:
            raise NoLine(number) from error
    return net
