"""What ties carry, reckoned straight by the words of [5.2] and [5.3], and other things that tests of plans ask for."""


def all_carry(net, plan, message, prime, fallen):
    begins = {number: one for number, one, other, delay in net.ties()}
    into = {name: ties_into(net, name) for name in set(begins.values())}
    found = {}

    def carries(number):
        if number not in found:
            found[number] = 0 if number in fallen else mixed(number) % prime
        return found[number]

    def mixed(number):
        comes = message
        if begins[number] != net.home():
            comes = [carries(each) for each in into[begins[number]]]
        return sum(mine * theirs for mine, theirs in zip(plan[number], comes, strict=True))

    return {number: carries(number) for number in begins}


def ties_into(net, name):
    return sorted(number for number, one, other, delay in net.ties() if other == name)


def comes_to(net, plan, message, prime, fallen, listener):
    """What the ties into the listener carry, by their numbers."""
    carries = all_carry(net, plan, message, prime, fallen)
    return [carries[number] for number in ties_into(net, listener)]


def all_rows(net, plan, many, prime, fallen):
    """The row of each tie, out of what it carries of the messages with a single 1."""
    messages = [[int(place == own) for place in range(many)] for own in range(many)]
    flows = [all_carry(net, plan, message, prime, fallen) for message in messages]
    return {number: [carries[number] for carries in flows] for number in flows[0]}


def rank_by_hand(rows, prime):
    left = [list(row) for row in rows if any(row)]
    found = 0
    while left:
        lead = left.pop()
        place = next(at for at, number in enumerate(lead) if number)
        back = pow(lead[place], -1, prime)
        less = [[(a - row[place] * back * b) % prime for a, b in zip(row, lead)] for row in left]
        left = [row for row in less if any(row)]
        found += 1
    return found


def who_reads(net, plan, many, prime, fallen):
    """The listeners to which unlike messages always come unlike."""
    rows = all_rows(net, plan, many, prime, fallen)
    told = []
    for listener in net.listeners():
        if rank_by_hand([rows[number] for number in ties_into(net, listener)], prime) == many:
            told.append(listener)
    return told


def lists_within(told):
    """Every list, tuple and dict of what is told, itself among them."""
    if isinstance(told, dict):
        parts = list(told.values())
    elif isinstance(told, (list, tuple)):
        parts = list(told)
    else:
        return []
    return [told] + [found for part in parts for found in lists_within(part)]


def spoil(told):
    """Changes every list and dict within, as an asker may do with what is their own."""
    for found in lists_within(told):
        if isinstance(found, list):
            found.reverse()
            found.append(99)
        elif isinstance(found, dict):
            found.pop(next(iter(found), None), None)
            found[77] = [7]


def shared(one, other):
    """Whether a list or dict of the one lies within the other, too."""
    mine = {id(found) for found in lists_within(one) if not isinstance(found, tuple)}
    return any(id(found) in mine for found in lists_within(other))
