"""Every refusal of the program, each straight under PostError."""


# A refusal outlives the call that raised it, so a later change of a list that it was made with must not reach it.
def kept(value):
    if isinstance(value, list):
        return list(value)
    return value


class PostError(ValueError):
    pass


class NoPrime(PostError):
    pass


class NoBack(PostError):
    pass


class NoName(PostError):
    pass


class Taken(PostError):
    pass


class OneHouse(PostError):
    pass


class IntoHouse(PostError):
    pass


class RingMade(PostError):
    pass


class NoNumber(PostError):
    pass


class TooMany(PostError):
    pass


class Unplanned(PostError):
    pass


class NoPost(PostError):
    def __init__(self, name):
        self.name = name


class NoSuch(PostError):
    def __init__(self, number):
        self.number = number


class NoLine(PostError):
    def __init__(self, number):
        self.number = number


class NoPlan(PostError):
    def __init__(self, number):
        self.number = number


class Cut(PostError):
    def __init__(self, fallen, name, numbers):
        self.fallen = kept(fallen)
        self.name = name
        self.numbers = kept(numbers)


class SmallPrime(PostError):
    def __init__(self, needed):
        self.needed = needed
