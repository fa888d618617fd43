"""Plans: the multipliers of the ties, looked over, and what the ties carry by them."""

from mixposts.errors import NoPlan, NoPost
from mixposts.nets import is_whole
from mixposts.primes import Field
from mixposts.tables import column, ones, row_sum


# Tuples (tie, the ties that it mixes), each behind all that it mixes. A tie out of the house mixes the message: it has
# None, as an empty list is that of a post without ties into it.
def mixing_ties(net):
    home = net.home()
    told = []
    for name in net.ordered():
        mixed = None if name == home else net.into(name)
        for number in net.out_of(name):
            told.append((number, mixed))
    return told


def by_number(told):
    return dict([(number, told[number]) for number in sorted(told)])


def wanted_lengths(net, many):
    return by_number(dict([(number, many if mixed is None else len(mixed)) for number, mixed in mixing_ties(net)]))


def is_number_of(field, number):
    return is_whole(number) and 0 <= number < field.prime


def is_row_of(field, row, length):
    return len(row) == length and all([is_number_of(field, number) for number in row])


def checked_plan(net, plan, many, prime):
    field = Field(prime)
    lengths = wanted_lengths(net, many)
    for number in lengths:
        if number not in plan or not is_row_of(field, plan[number], lengths[number]):
            raise NoPlan(number)
    strange = [number for number in plan if number not in lengths]
    if len(strange) > 0:
        raise NoPlan(min(strange))
    return dict([(number, list(plan[number])) for number in lengths])


def coming_in(message, mixed, carries):
    if mixed is None:
        return message
    return [carries[number] for number in mixed]


def flow(field, mixing, plan, message, fallen):
    carries = {}
    for number, mixed in mixing:
        if fallen is not None and number in fallen:
            carries[number] = 0
        else:
            carries[number] = row_sum(field, plan[number], coming_in(message, mixed, carries))
    return by_number(carries)


def sent(net, plan, message, prime, fallen=None):
    return flow(Field(prime), mixing_ties(net), plan, message, fallen)


# A message of a single 1, else noughts, makes each tie carry the number of its row at that place.
def carried(net, plan, many, prime, fallen=None):
    field = Field(prime)
    mixing = mixing_ties(net)
    flows = [flow(field, mixing, plan, message, fallen) for message in ones(many)]
    return by_number(dict([(number, column(flows, number)) for number, mixed in mixing]))


def heard(net, plan, many, prime, listener, fallen=None):
    if listener not in net.listeners():
        raise NoPost(listener)
    rows = carried(net, plan, many, prime, fallen)
    return [rows[number] for number in net.into(listener)]
