"""Tables in bits: a text of 0 and 1 for each function.

Views ahead are, for each level of a mark's chain, the list of places that the mark of the spot before has in that
level, where it has a frame of the same function there; else an empty list.
"""

from stopglass.errors import BadBits
from stopglass.flows import Flows
from stopglass.plans import MOST_FRAMES, MOST_STATIONS
from stopglass.reckonings import MOST_LEAVES, leaves
from stopglass.words import SIGNS

MOST_GROUPS = 16
MOST_BOX = 127
SIGN_BITS = 4

GONE_BITS = "00"
AS_AHEAD_BITS = "01"


def number_bits(number):
    groups = []
    rest = number
    while rest >= 8:
        groups.append("1" + plain_bits(rest & 7, 3))
        rest = rest >> 3
    return "".join(groups) + "0" + plain_bits(rest, 3)


# The lowest bits of a number, as many as told, the highest first.
def plain_bits(number, count):
    return "".join(["1" if number >> k & 1 else "0" for k in range(count - 1, -1, -1)])


def place_bits(place):
    return GONE_BITS if place is None else "1" + reckoning_bits(place)


def reckoning_bits(one):
    if one[0] == "box":
        return "0" + number_bits(one[1])
    if one[0] == "num":
        return "10" + number_bits(one[1])
    return "11" + plain_bits(SIGNS.index(one[0]), SIGN_BITS) + reckoning_bits(one[1]) + reckoning_bits(one[2])


def pack(program, table):
    flows = Flows(program)
    return [marks_bits(flows, marks) for name, marks in table]


def marks_bits(flows, marks):
    written = [number_bits(len(marks))]
    before = ((), [])
    for mark in marks:
        written.append(mark_bits(flows, before, mark))
        before = mark
    return "".join(written)


def mark_bits(flows, before, mark):
    chain, views = mark
    written = [number_bits(len(chain))]
    for function, row in chain:
        written.append(number_bits(flows.number_of[function]) + number_bits(row))
    for places, ahead in zip(views, views_ahead(before, chain)):
        written.append(view_bits(places, ahead))
    return "".join(written)


def view_bits(places, ahead):
    written = []
    for k, place in enumerate(places):
        # A slice, since there may be nothing ahead, which is another thing than a place that is gone.
        written.append(AS_AHEAD_BITS if ahead[k:k + 1] == [place] else place_bits(place))
    return "".join(written)


def views_ahead(before, chain):
    found = []
    for level, frame in enumerate(chain):
        has_one = level < len(before[0]) and before[0][level][0] == frame[0]
        found.append(before[1][level] if has_one else [])
    return found


def unpack(program, rows):
    if len(rows) != len(program):
        raise BadBits()
    flows = Flows(program)
    return [(function[0], BitReader(flows, row).all_marks()) for function, row in zip(program, rows)]


class BitReader:
    def __init__(self, flows, bits):
        if not all([sign in ("0", "1") for sign in bits]):
            raise BadBits()
        self.flows = flows
        self.called = list(flows.number_of)
        self.bits = bits
        self.at = 0

    def take(self, count):
        found = self.bits[self.at:self.at + count]
        if len(found) < count:
            raise BadBits()
        self.at += count
        return found

    # A number from least to most; all else is refused.
    def number(self, least, most):
        found = self.any_number()
        if found < least or found > most:
            raise BadBits()
        return found

    def any_number(self):
        found = 0
        for k in range(MOST_GROUPS):
            group = self.take(4)
            found += int(group[1:], 2) << (3 * k)
            if group[0] == "0":
                if group == "0000" and k > 0:
                    raise BadBits()
                return found
        raise BadBits()

    def all_marks(self):
        marks = []
        before = ((), [])
        for k in range(self.number(1, MOST_STATIONS)):
            before = self.mark(before)
            marks.append(before)
        if self.at < len(self.bits):
            raise BadBits()
        return marks

    def mark(self, before):
        chain = tuple([self.frame() for k in range(self.number(1, MOST_FRAMES))])
        views = []
        for frame, ahead in zip(chain, views_ahead(before, chain)):
            views.append(self.view(len(self.flows.names_in[frame[0]]), ahead))
        return (chain, views)

    def frame(self):
        function = self.called[self.number(0, len(self.called) - 1)]
        return (function, self.number(0, len(self.flows.rows_of[function]) - 1))

    def view(self, count, ahead):
        return [self.place_beside(ahead[k:k + 1]) for k in range(count)]

    # The place ahead is told in a list, which is empty where nothing is ahead.
    def place_beside(self, ahead):
        if self.take(1) == "1":
            found = [self.reckoning(MOST_LEAVES)]
        elif self.take(1) == "0":
            found = [None]
        elif ahead:
            return ahead[0]
        else:
            raise BadBits()
        if found == ahead:
            raise BadBits()
        return found[0]

    # Counting the leaves that may still come keeps bits of any length from leading any deeper.
    def reckoning(self, most):
        if most < 1:
            raise BadBits()
        if self.take(1) == "0":
            return ("box", self.number(0, MOST_BOX))
        if self.take(1) == "0":
            return ("num", self.any_number())
        sign = int(self.take(SIGN_BITS), 2)
        if sign >= len(SIGNS):
            raise BadBits()
        left = self.reckoning(most - 1)
        right = self.reckoning(most - leaves(left))
        return (SIGNS[sign], left, right)
