"""Choices of the ties that may fall."""


def longer_by_one(chosen, numbers):
    told = []
    for choice in chosen:
        for number in numbers:
            if len(choice) == 0 or number > choice[-1]:
                told.append(choice + [number])
    return told


def choices(net, falls):
    numbers = [tie[0] for tie in net.ties()]
    told = [[]]
    longest = [[]]
    for turn in range(falls):
        longest = longer_by_one(longest, numbers)
        told = told + longest
    return told
