"""The refusals: each stands straight under HalfError, so that taking one takes no other."""


class HalfError(ValueError):
    pass


# An error keeps what it is made of by itself; so the fields alone are set here,
# and a copy of an error is made of the same things again.


class NoHalf(HalfError):
    def __init__(self, word, number):
        self.word = word
        self.number = number


class NoText(HalfError):
    def __init__(self, row):
        self.row = row


class NoName(HalfError):
    def __init__(self, name):
        self.name = name


class TooMany(HalfError):
    def __init__(self, word):
        self.word = word


class NoCover(HalfError):
    pass


class NoPlace(HalfError):
    def __init__(self, number):
        self.number = number


class NoOrder(HalfError):
    pass


class NoJoin(HalfError):
    def __init__(self, word):
        self.word = word


class Clash(HalfError):
    def __init__(self, way):
        self.way = way


class NoPaper(HalfError):
    def __init__(self, word, row):
        self.word = word
        self.row = row


class NoPlan(HalfError):
    def __init__(self, word, path):
        self.word = word
        self.path = path


class NoBound(HalfError):
    def __init__(self, word, row):
        self.word = word
        self.row = row


class NoSaying(HalfError):
    def __init__(self, number):
        self.number = number


class NoMore(HalfError):
    pass
