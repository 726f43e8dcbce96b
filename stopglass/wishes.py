"""Wishes: going on by steps until a walker is where one wants it."""

from stopglass.walkers import value


def over(walker, most=200):
    count = len(walker.frames())
    return go_until(walker, most, lambda deed: is_within(walker, count))


def leave(walker, most=200):
    count = len(walker.frames())
    return go_until(walker, most, lambda deed: is_within(walker, count - 1))


def reach(walker, function, row, most=200):
    return go_until(walker, most, lambda deed: walker.frames()[-1:] == [(function, row)])


def watch(walker, record, field, most=200):
    return go_until(walker, most, lambda deed: is_put(deed, record, field))


def till(walker, condition, most=200):
    return go_until(walker, most, lambda deed: condition(walker))


def condition(function, name, sign, number):
    def is_so(walker):
        frames = walker.frames()
        # A walker that has ended has no frames.
        if len(frames) == 0 or frames[-1][0] != function:
            return False
        told = walker.told(len(frames) - 1, name)
        if told is None:
            return None
        return value(sign, told, number) != 0

    return is_so


# Goes on until asked, of the step's deed, tells True or None (gone). That is asked ahead of whether the walker has
# ended, and that ahead of whether it is tired.
def go_until(walker, most, asked):
    steps = 0
    while not walker.ended():
        if steps >= most:
            return ("tired", steps)
        deed = walker.step()
        steps += 1
        told = asked(deed)
        if told is True:
            return ("there", steps)
        if told is None:
            return ("gone", steps)
    return ("ended", steps)


def is_within(walker, count):
    # A walker that has ended has no frames, and yet is nowhere.
    return not walker.ended() and len(walker.frames()) <= count


def is_put(deed, record, field):
    return deed is not None and deed[:3] == ("put", record, field)
