"""The judge: of each listener a table by which it reads, or two messages that come to it alike."""

from mixposts.plans import carried, checked_plan
from mixposts.primes import Field
from mixposts.tables import nought, reader


# A message that comes as noughts alone comes as the message of noughts does.
def judgement(field, table, many):
    read = reader(field, table, many)
    if read is not None:
        return ("reads", read)
    return ("alike", [0] * many, nought(field, table, many))


def judged(net, plan, many, prime, fallen=None):
    looked_over = checked_plan(net, plan, many, prime)
    field = Field(prime)
    rows = carried(net, looked_over, many, prime, fallen)
    told = {}
    for listener in net.listeners():
        table = [rows[number] for number in net.into(listener)]
        told[listener] = judgement(field, table, many)
    return told
