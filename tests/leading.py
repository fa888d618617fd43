"""Where ties lead, by the words of [4.1], [7.2] and [8.1], for tests."""

import itertools


def ends(net):
    return {number: (one, other) for number, one, other, delay in net.ties()}


def led_to(net, gone):
    """The posts to which ties lead from the house without those that are gone."""
    reached = {net.home()}
    while True:
        more = {other for number, (one, other) in ends(net).items() if one in reached and number not in gone} - reached
        if not more:
            return reached
        reached |= more


def ways_at_once(net, listener, fallen):
    """How many ways without a tie in two of them there are; each new one may turn back along earlier ones."""
    free = {number: pair for number, pair in ends(net).items() if number not in fallen}

    def one_more(at, seen):
        if at == listener:
            return True
        seen.add(at)
        for number, (one, other) in list(free.items()):
            if one == at and other not in seen and one_more(other, seen):
                free[number] = (other, one)
                return True
        return False

    many = 0
    while net.home() is not None and one_more(net.home(), set()):
        many += 1
    return many


def all_choices(net, falls):
    numbers = sorted(ends(net))
    return [list(some) for many in range(falls + 1) for some in itertools.combinations(numbers, many)]


def first_too_few(net, many, falls):
    """The first choice and the first listener by it to which fewer ways than so many lead, or None."""
    for choice in all_choices(net, falls):
        for listener in net.listeners():
            if ways_at_once(net, listener, choice) < many:
                return choice, listener
    return None


def is_cut(net, listener, many, fallen, told):
    """Whether these are fewer ties than so many, rising, none fallen, without which nothing leads to the listener."""
    if len(told) >= many or told != sorted(set(told)) or not set(told) <= set(ends(net)) or set(told) & set(fallen):
        return False
    return net.home() is None or listener not in led_to(net, fallen + told)
