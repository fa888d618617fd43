"""Plans judged by the ties that may fall, and plans for nets that have changed."""

from mixposts.choices import choices
from mixposts.errors import NoPlan
from mixposts.judges import judged
from mixposts.makers import plan_for
from mixposts.plans import checked_plan


def first_deaf(judgements):
    for listener in judgements:
        if judgements[listener][0] != "reads":
            return listener
    return None


def tables_of(judgements):
    return dict([(listener, judgements[listener][1]) for listener in judgements])


# There is always a first choice, and the judge looks the plan over ahead of all else.
def stands(net, plan, many, prime, falls=0):
    told = []
    for choice in choices(net, falls):
        judgements = judged(net, plan, many, prime, choice)
        deaf = first_deaf(judgements)
        if deaf is not None:
            return ("falls", choice, deaf, judgements[deaf][1], judgements[deaf][2])
        told.append((choice, tables_of(judgements)))
    return ("stands", told)


def told_of_the_net(net, old):
    return dict([(tie[0], old[tie[0]]) for tie in net.ties() if tie[0] in old])


# The old plan where it still does, else None.
def still_good(net, old, many, prime):
    try:
        plan = checked_plan(net, told_of_the_net(net, old), many, prime)
    except NoPlan:
        return None
    if first_deaf(judged(net, plan, many, prime)) is not None:
        return None
    return plan


def changed_ties(old, plan):
    return [number for number in plan if number not in old or old[number] != plan[number]]


def mended(net, old, many, prime):
    plan = still_good(net, old, many, prime)
    if plan is None:
        plan = plan_for(net, many, prime)
    return (plan, changed_ties(old, plan))
