"""Plans made, that stand fallen ties, or a cut where no plan can."""

from mixposts.choices import choices
from mixposts.errors import Cut, SmallPrime
from mixposts.plans import by_number, mixing_ties
from mixposts.primes import Field
from mixposts.tables import column, ones, row_sum, times_row
from mixposts.ways import ways


# An ear is a listener that is to read by one choice of fallen ties. A plan is made tie by tie; meanwhile each of the
# ear's ways has a front, the last of its ties that has its multipliers. For each way there is a probe: a row whose sum
# over the row of the way's own front is not 0, and over those of the other fronts 0. As long as there are such probes,
# the fronts carry all numbers that are sent; at last they are ties into the listener, and so it reads.
class Ear:
    def __init__(self, rows, many):
        # The ties' rows by the choice: one dict for all ears of it, which grows tie by tie.
        self.rows = rows
        self.probes = ones(many)

    def shown(self, field, way, number):
        return row_sum(field, self.probes[way], self.rows[number])

    # The tie shows something else than 0 by the way's own probe, which may stay so; the others are made to show 0.
    def move_front(self, field, way, number):
        own = self.probes[way]
        often = self.shown(field, way, number)
        moved = []
        for place, probe in enumerate(self.probes):
            less = 0 if place == way else self.shown(field, place, number)
            if less == 0:
                moved.append(probe)
            else:
                moved.append([field.fit(often * mine - less * theirs) for mine, theirs in zip(probe, own)])
        self.probes = moved


def ways_by_choice(net, many, chosen):
    listeners = net.listeners()
    told = []
    for choice in chosen:
        by_listener = []
        for listener in listeners:
            found = ways(net, listener, many, choice)
            if found[0] == "cut":
                raise Cut(choice, listener, found[1])
            by_listener.append(found[1])
        told.append(by_listener)
    return told


# A message's numbers are taken as what ties into the house carry; no tie of a net has a number below 0.
def message_ties(many):
    return [-1 - place for place in range(many)]


# Of each tie the ears whose ways have it, each with the way's place and the tie ahead of it on that way.
def asks_by_tie(net, many, found, rows_by_choice):
    starts = message_ties(many)
    told = dict([(tie[0], []) for tie in net.ties()])
    for by_listener, rows in zip(found, rows_by_choice):
        for ear_ways in by_listener:
            ear = Ear(rows, many)
            for place, way in enumerate(ear_ways):
                for number, ahead in zip(way, [starts[place]] + way):
                    told[number].append((ear, place, ahead))
    return told


# No value is 0, so each bars one number at most: where the values are fewer than the prime, a number is left.
def unbarred(field, values, steps):
    often = 0
    while any([field.fit(often * value + step) == 0 for value, step in zip(values, steps)]):
        often += 1
    return often


# The tie is to show something else than 0 to all that ask. They are heard one by one: where it shows 0, the tie ahead,
# which does not, is added to so many times the multipliers so far that all that were heard before stay content.
def multipliers(field, mixed, asks):
    told = [0] * len(mixed)
    values = [0] * len(asks)
    for at, ask in enumerate(asks):
        if values[at] == 0:
            steps = [ear.shown(field, way, ask[2]) for ear, way, ahead in asks]
            often = unbarred(field, values[:at], steps)
            told = [field.fit(often * mine + (1 if number == ask[2] else 0)) for number, mine in zip(mixed, told)]
            values = [field.fit(often * value + step) for value, step in zip(values, steps)]
    return told


def mixed_row(field, mixed, told, rows, many):
    comes = [rows[number] for number in mixed]
    return times_row(field, [column(comes, place) for place in range(many)], told)


def made_plan(net, many, field, chosen, found):
    rows_by_choice = [dict(zip(message_ties(many), ones(many))) for choice in chosen]
    asks = asks_by_tie(net, many, found, rows_by_choice)
    plan = {}
    for number, into in mixing_ties(net):
        mixed = message_ties(many) if into is None else into
        plan[number] = multipliers(field, mixed, asks[number])
        for choice, rows in zip(chosen, rows_by_choice):
            rows[number] = [0] * many if number in choice else mixed_row(field, mixed, plan[number], rows, many)
        for ear, way, ahead in asks[number]:
            ear.move_front(field, way, number)
    return by_number(plan)


def plan_for(net, many, prime, falls=0):
    field = Field(prime)
    chosen = choices(net, falls)
    found = ways_by_choice(net, many, chosen)
    needed = len(net.listeners()) * len(chosen)
    if prime < needed:
        raise SmallPrime(needed)
    return made_plan(net, many, field, chosen, found)
