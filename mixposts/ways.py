"""Ways from the house to a listener, and a cut where there are not enough of them."""

from mixposts.errors import NoPost


def standing_ties(net, fallen):
    if fallen is None:
        return net.ties()
    return [tie for tie in net.ties() if tie[0] not in fallen]


def ties_by_post(names, ties):
    touching = dict([(name, []) for name in names])
    for tie in ties:
        touching[tie[1]].append(tie)
        touching[tie[2]].append(tie)
    return touching


# A tie in use is gone along backwards alone: the way that has it then gives it up to the one that is looked for.
def step_over(tie, name, used):
    if tie[0] in used:
        return tie[1] if tie[2] == name else None
    return tie[2] if tie[1] == name else None


# Of each post that is reached, by which tie and from which post it is; without a house none is.
def reached_from(home, touching, used):
    if home is None:
        return {}
    came = {home: None}
    waiting = [home]
    while len(waiting) > 0:
        name = waiting.pop(0)
        for tie in touching[name]:
            nearby = step_over(tie, name, used)
            if nearby is not None and nearby not in came:
                came[nearby] = (tie[0], name)
                waiting.append(nearby)
    return came


def used_with(used, came, listener):
    told = dict(used)
    step = came[listener]
    while step is not None:
        if step[0] in told:
            told.pop(step[0])
        else:
            told[step[0]] = True
        step = came[step[1]]
    return told


# Each tie between is in use, and none in use leads back, so they are as many as the ways found.
def ties_between(ties, came):
    return [number for number, one, other, delay in ties if one in came and other not in came]


def tie_out_of(ties, name):
    for tie in ties:
        if tie[1] == name:
            return tie
    return None


# As many ties in use go out of each post on the way as come into it, so no walk stops ahead of the listener.
def one_way(ties, home, listener):
    way = []
    name = home
    while name != listener:
        tie = tie_out_of(ties, name)
        way.append(tie[0])
        name = tie[2]
    return way


def parted_ways(ties, home, listener, many):
    told = []
    left = ties
    while len(told) < many:
        way = one_way(left, home, listener)
        left = [tie for tie in left if tie[0] not in way]
        told.append(way)
    return told


def ways(net, listener, many, fallen=None):
    if listener not in net.listeners():
        raise NoPost(listener)
    home = net.home()
    ties = standing_ties(net, fallen)
    touching = ties_by_post(net.names(), ties)
    used = {}
    for turn in range(many):
        came = reached_from(home, touching, used)
        if listener not in came:
            return ("cut", ties_between(ties, came))
        used = used_with(used, came, listener)
    return ("ways", parted_ways([tie for tie in ties if tie[0] in used], home, listener, many))
