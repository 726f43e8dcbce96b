"""Every refusal of the program, each a class of its own under GlassError."""


class GlassError(ValueError):
    pass


class BadRow(GlassError):
    def __init__(self, at):
        self.at = at


class NoFunction(GlassError):
    pass


class TwiceNamed(GlassError):
    def __init__(self, word):
        self.word = word


class BadNest(GlassError):
    def __init__(self, function, at):
        self.function = function
        self.at = at


class BadCall(GlassError):
    def __init__(self, function, at):
        self.function = function
        self.at = at


class NoName(GlassError):
    pass


class Ended(GlassError):
    pass


class TooLong(GlassError):
    def __init__(self, function):
        self.function = function


class Gone(GlassError):
    pass


class NotBox(GlassError):
    pass


class Shared(GlassError):
    def __init__(self, others):
        # The asker may change the list, so it must be nobody else's.
        self.others = list(others)


class BadBits(GlassError):
    pass


class Untrue(GlassError):
    pass
