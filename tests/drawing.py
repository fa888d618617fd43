"""Nets, plans, messages and fallen ties drawn by chance, from a source that is handed in, for tests."""

from mixposts.nets import Net


def fresh_names(many, start=0):
    letters = "abcdefghijklmnopqrstuvwxyz"
    return ["n" + letters[at // 26] + letters[at % 26] for at in range(start, start + many)]


def drawn_posts(source, along, listeners, house):
    """Posts put in in another order than the one along which ties are to lead."""
    names = list(along)
    source.shuffle(names)
    heard = source.sample(along[1:], source.randrange(1, min(listeners, len(along) - 1) + 1))
    net = Net()
    for name in names:
        if house and name == along[0]:
            net.house(name)
        elif name in heard:
            net.listener(name)
        else:
            net.post(name)
    return net


def drawn_net(source, many_posts, many_ties, cuts=0, listeners=8, house=True):
    """So many posts and ties; so many other ties were cut meanwhile."""
    along = fresh_names(many_posts)
    source.shuffle(along)
    net = drawn_posts(source, along, listeners, house)
    for turn in range(many_ties + cuts):
        if len(net.ties()) == many_ties:
            net.cut_tie(source.choice(net.ties())[0])
        one, other = sorted(source.sample(range(many_posts), 2))
        # Short ties make long ways.
        if source.randrange(2):
            other = min(other, one + 3)
        net.tie(along[one], along[other], source.choice((1, 2, 9, 10, 99, source.randrange(1, 100))))
    return net


def drawn_rich_net(source, many_posts, width, listeners=8, extra=0, idle=0):
    """So many ties at least lead into each post along the way, so that no listener has a cut of fewer; so many ties are
    put in besides, and so many posts to which nothing leads, but out of which ties lead."""
    along = fresh_names(many_posts)
    source.shuffle(along)
    ends = [(source.randrange(other), other) for other in range(1, many_posts) for turn in range(width)]
    ends += [sorted(source.sample(range(many_posts), 2)) for turn in range(extra)]
    ends = [(along[one], along[other]) for one, other in ends]
    lonely = fresh_names(idle, many_posts)
    ends += [(name, source.choice(along[1:])) for name in lonely]
    source.shuffle(ends)
    net = drawn_posts(source, along, listeners, True)
    for name in lonely:
        net.post(name)
    for one, other in ends:
        net.tie(one, other, source.choice((1, 2, 9, 10, 99, source.randrange(1, 100))))
    return net


def drawn_size(source, most_posts, most_ties):
    """How many posts and ties, and how many cuts."""
    return source.randrange(2, most_posts + 1), source.randrange(1, most_ties + 1), source.randrange(0, 9)


def drawn_fallen(source, net):
    numbers = [tie[0] for tie in net.ties()]
    return sorted(source.sample(numbers, source.randrange(0, min(4, len(numbers)) + 1)))


def drawn_numbers(source, many, prime):
    return [source.randrange(prime) for turn in range(many)]


def drawn_plan(source, net, many, prime):
    """A plan of the net, its ties in any order."""
    ties = net.ties()
    source.shuffle(ties)
    plan = {}
    for number, one, other, delay in ties:
        plan[number] = drawn_numbers(source, many if one == net.home() else len(net.into(one)), prime)
    return plan
