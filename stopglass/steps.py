"""What a step, an arrival and a wait spot ask of code and table.

Names are told by levels: a list with, for each frame of a chain, a dict from its names to reckonings, None where a
name is gone or unknown.
"""

from stopglass.reckonings import put_through, together

# What a get, a new or a call brings: it equals nothing but itself, so it is no reckoning that a place may be.
BROUGHT = ("brought",)

# Where the box that an act fills stands in it.
FILLED_PLACES = {"get": 3, "new": 1, "wait": 1}


def levels_of(flows, mark):
    chain, views = mark
    return [dict(zip(flows.names_in[frame[0]], places)) for frame, places in zip(chain, views)]


def place_of(named, atom):
    return named[atom] if isinstance(atom, str) else ("num", atom)


def moved(flows, chain, way):
    last = chain[-1]
    return chain[:-1] + ((last[0], flows.ways_at(last)[way]),)


def with_given(levels, name, place):
    named = dict(levels[-1])
    named[name] = place
    return levels[:-1] + [named]


# What a copy's or op's X is behind the row.
def made_by(row, named):
    if row[0] == "copy":
        return place_of(named, row[2])
    left = place_of(named, row[3])
    right = place_of(named, row[4])
    if left is None or right is None:
        return None
    return together(row[2], left, right)


def entered(flows, row, levels):
    named = dict([(name, ("num", 0)) for name in flows.names_in[row[2]]])
    for param, atom in zip(flows.params_of[row[2]], row[3]):
        named[param] = place_of(levels[-1], atom)
    return levels + [named]


def left_behind(call, back, levels):
    return with_given(levels[:-1], call[1], place_of(levels[-1], back[1]))


# The act that a row asks for, up to what is asked of it otherwise: the box that it fills and its spots. A gone
# place is in no act, so an act that would have to equal one never does.
def asked_act(row, named):
    kind = row[0]
    if kind in ("out", "back"):
        return (kind, place_of(named, row[1]))
    if kind in ("if", "while"):
        return ("if", place_of(named, row[1]))
    if kind == "get":
        return ("get", place_of(named, row[2]), row[3])
    if kind == "put":
        return ("put", place_of(named, row[1]), row[2], place_of(named, row[3]))
    if kind == "call":
        return ("call", row[2], tuple([place_of(named, atom) for atom in row[3]]))
    if kind == "new":
        return ("new",)
    return ("go",)


def boxes_behind(spot):
    sets, act = spot
    news = dict(sets)
    filled = act[FILLED_PLACES[act[0]]] if act[0] in FILLED_PLACES else None
    if filled is not None:
        news[filled] = BROUGHT
    return news


class Step:
    def __init__(self, flows, spots, marks, k):
        self.flows = flows
        self.spots = spots
        self.marks = marks
        self.act = spots[k][1]
        self.chain = marks[k][0]
        self.ahead = levels_of(flows, marks[k])
        self.row = flows.row_at(self.chain[-1])
        self.news = boxes_behind(spots[k])

    def stands(self):
        if self.act[0] == "wait":
            return self.comes_on(self.act[2], with_given(self.ahead, self.row[1], BROUGHT))
        if self.act[0] == "go":
            return self.goes(self.act[1])
        asked = asked_act(self.row, self.ahead[-1])
        if self.act[:len(asked)] != asked:
            return False
        if self.row[0] == "back":
            return len(self.chain) == 1
        if self.row[0] == "call":
            return self.is_wait(self.act[3]) and self.shows(self.act[3], self.chain, self.ahead)
        if self.row[0] in ("if", "while"):
            return self.parts(self.act[2], self.act[3])
        if self.row[0] in ("get", "new"):
            return self.comes_on(self.act[-1], with_given(self.ahead, self.row[1], BROUGHT))
        return self.comes_on(self.act[-1], self.ahead)

    # A go does nothing but its sets, so it is asked which rows may be done by them alone.
    def goes(self, k):
        kind = self.row[0]
        if kind in ("copy", "op"):
            return self.comes_on(k, with_given(self.ahead, self.row[1], made_by(self.row, self.ahead[-1])))
        if kind == "get":
            return self.comes_on(k, with_given(self.ahead, self.row[1], None))
        if kind == "call":
            return self.arrives(k, self.chain + ((self.row[2], 0),), entered(self.flows, self.row, self.ahead))
        if kind == "back" and len(self.chain) > 1:
            outer = self.chain[:-1]
            levels = left_behind(self.flows.row_at(outer[-1]), self.row, self.ahead)
            return self.arrives(k, moved(self.flows, outer, 0), levels)
        return False

    def parts(self, yes, no):
        if not self.arrives(yes, moved(self.flows, self.chain, 0), self.ahead):
            return False
        return self.arrives(no, moved(self.flows, self.chain, 1), self.ahead)

    def comes_on(self, k, levels):
        return self.arrives(k, moved(self.flows, self.chain, 0), levels)

    def arrives(self, k, chain, levels):
        return not self.is_wait(k) and self.shows(k, chain, levels)

    def is_wait(self, k):
        return self.spots[k][1][0] == "wait"

    def shows(self, k, chain, levels):
        if self.marks[k][0] != chain:
            return False
        for shown, behind in zip(levels_of(self.flows, self.marks[k]), levels):
            for name, place in shown.items():
                if place is not None and put_through(place, self.news) != behind[name]:
                    return False
        return True
