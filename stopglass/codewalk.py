"""The walk on code: spots done one by one, and told by the table as the rows of the text."""

from stopglass.reckonings import worth
from stopglass.walkers import Walker

# Where the reckonings of an act stand in it; those of a call stand in a tuple of their own.
RECKONING_PLACES = {
    "go": (),
    "if": (1,),
    "out": (1,),
    "put": (1, 3),
    "get": (1,),
    "new": (),
    "wait": (),
    "back": (1,),
}


def reckonings_of(act):
    if act[0] == "call":
        return list(act[2])
    return [act[place] for place in RECKONING_PLACES[act[0]]]


# The lists within code and table may be changed behind the call, so the walker has its own.
def spots_by_name(code):
    found = {}
    for name, spots in code:
        found[name] = [(tuple(sets), act) for sets, act in spots]
    return found


def marks_by_name(table):
    found = {}
    for name, marks in table:
        found[name] = [(chain, [tuple(places) for places in views]) for chain, views in marks]
    return found


class CodeFrame:
    def __init__(self, function, args, first):
        self.function = function
        self.spot = 0
        self.boxes = dict(enumerate(args))
        # The level at which its chain begins: it never moves, since the frames ahead of it wait.
        self.first = first

    def worths_of(self, reckonings):
        return [worth(one, self.boxes) for one in reckonings]

    def do_sets(self, sets):
        # All are reckoned ahead of the first that is done, since a set may read a box that another one writes.
        numbers = self.worths_of([pair[1] for pair in sets])
        for pair, number in zip(sets, numbers):
            self.give(pair[0], number)

    def give(self, box, number):
        if box is not None:
            self.boxes[box] = number


class CodeWalker(Walker):
    def __init__(self, program, code, table, args):
        Walker.__init__(self, program)
        self.spots_of = spots_by_name(code)
        self.marks_of = marks_by_name(table)
        # For each level of the frames that wait, the own frame in which it lies.
        self.waiting = []
        self.begin(self.flows.last, args)

    def place(self, level, name):
        self.ask_for_name(level, name)
        frame = self.owner_of(level)
        views = self.mark_of(frame)[1]
        return views[level - frame.first][self.names_at(level).index(name)]

    def mates(self, level):
        self.ask_for_level(level)
        frame = self.owner_of(level)
        chain, views = self.mark_of(frame)
        found = []
        for k in range(len(chain)):
            for name, place in zip(self.names_at(frame.first + k), views[k]):
                found.append((frame.first + k, name, place))
        return found

    def fill_box(self, level, box, number):
        self.ask_for_level(level)
        self.owner_of(level).give(box, number)
        return True

    def chain_of(self, frame):
        return self.mark_of(frame)[0]

    def shown_at(self, level):
        if level < 0 or self.ended():
            return None
        frame = self.owner_of(level)
        chain = self.chain_of(frame)
        return chain[level - frame.first] if level - frame.first < len(chain) else None

    def owner_of(self, level):
        return self.waiting[level] if level < len(self.waiting) else self.stack[-1]

    def tell(self, level, name):
        found = self.place(level, name)
        return None if found is None else worth(found, self.owner_of(level).boxes)

    def walk_on(self):
        frame = self.stack[-1]
        sets, act = self.spot_of(frame)
        # The act speaks of the boxes as they stood ahead of the sets.
        worths = frame.worths_of(reckonings_of(act))
        frame.do_sets(sets)
        return self.do_act(frame, act, worths)

    def begin(self, function, args):
        self.stack.append(CodeFrame(function, args, len(self.waiting)))

    def spot_of(self, frame):
        return self.spots_of[frame.function][frame.spot]

    def mark_of(self, frame):
        return self.marks_of[frame.function][frame.spot]

    def do_act(self, frame, act, worths):
        kind = act[0]
        if kind == "back":
            self.go_back(worths[0])
            return None
        if kind == "call":
            frame.spot = act[3]
            self.waiting.extend([frame] * len(self.chain_of(frame)))
            self.begin(act[1], worths)
            return None
        if kind == "if":
            frame.spot = act[2] if worths[0] != 0 else act[3]
            return None
        frame.spot = act[-1]
        return self.do_deed(frame, act, worths)

    def do_deed(self, frame, act, worths):
        if act[0] == "out":
            return self.send_out(worths[0])
        if act[0] == "put":
            return self.put_field(worths[0], act[2], worths[1])
        if act[0] == "new":
            deed = self.make_record()
            frame.give(act[1], deed[1])
            return deed
        if act[0] == "get":
            frame.give(act[3], self.field(worths[0], act[2]))
        return None

    def go_back(self, number):
        self.stack.pop()
        if self.stack:
            frame = self.stack[-1]
            self.waiting = self.waiting[:frame.first]
            sets, act = self.spot_of(frame)
            frame.do_sets(sets)
            frame.give(act[1], number)
            frame.spot = act[2]
        else:
            self.outcome = number
