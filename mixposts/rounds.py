"""Rounds of messages under way at once, over ties with delays."""

from mixposts.judges import judged
from mixposts.plans import sent
from mixposts.primes import Field
from mixposts.tables import times_row


def lateness(net):
    ties = net.ties()
    told = {}
    for name in net.ordered():
        told[name] = max([told[one] + delay for number, one, other, delay in ties if other == name], default=0)
    return told


def read_message(field, judgement, into, carries):
    if judgement[0] != "reads":
        return None
    return times_row(field, judgement[1], [carries[number] for number in into])


# A round is mixed with itself alone, so delays change when it is read, never what is read.
def run(net, plan, many, prime, messages):
    judgements = judged(net, plan, many, prime)
    field = Field(prime)
    late = lateness(net)
    rounds = [sent(net, plan, message, prime) for message in messages]
    told = []
    for listener in judgements:
        into = net.into(listener)
        for turn, carries in enumerate(rounds):
            message = read_message(field, judgements[listener], into, carries)
            told.append((turn + late[listener], listener, turn, message))
    # Those of one time stay as they are, by the listeners' order: of each listener there is but one.
    return sorted(told, key=lambda reading: reading[0])
