"""Setting a name's value by hand, in the plain walk and on code."""

from stopglass.codewalk import CodeWalker
from stopglass.errors import Gone, NotBox, Shared
from stopglass.reckonings import hangs_on


def hanging(walker, level, name):
    walker.ask_for_name(level, name)
    if not isinstance(walker, CodeWalker):
        return []
    place = walker.place(level, name)
    if place is None or place[0] != "box":
        return []
    return [mate[:2] for mate in walker.mates(level) if mate[:2] != (level, name) and is_on(mate[2], place[1])]


def is_on(place, box):
    return place is not None and hangs_on(place, box)


def put_by_hand(walker, level, name, number):
    if not isinstance(walker, CodeWalker):
        return walker.fill(level, name, number)
    place = walker.place(level, name)
    if place is None:
        raise Gone()
    if place[0] != "box":
        raise NotBox()
    others = hanging(walker, level, name)
    if others:
        # Another name would be told another value, which the text did not give it.
        raise Shared(others)
    return walker.fill_box(level, place[1], number)
