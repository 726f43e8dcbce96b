"""What several tests lean on: made-up programs, and the plain walk told a second time, nest by nest."""

import copy

from stopglass.flows import reads, ways

WIDE = 2 ** 48
SIGNS = ("+", "-", "*", "/", "<", "=", "&", "|", "^")
EDGES = (0, 1, 2, 3, 7, 255, 2 ** 24, 2 ** 47, WIDE - 2, WIDE - 1)


class Unchanged:
    """Within it, nothing of what was handed in may change."""

    def __init__(self, test, *handed):
        self.test, self.handed, self.ahead = test, handed, copy.deepcopy(handed)

    def __enter__(self):
        return self

    def __exit__(self, *error):
        self.test.assertEqual(self.handed, self.ahead)


def sign_value(sign, one, other):
    if sign == "/":
        return one // other if other else 0
    found = {
        "+": lambda: one + other, "-": lambda: one - other, "*": lambda: one * other, "<": lambda: int(one < other),
        "=": lambda: int(one == other), "&": lambda: one & other, "|": lambda: one | other, "^": lambda: one ^ other,
    }[sign]()
    return found % WIDE


def end_of(rows, k):
    depth = 1
    while depth > 0:
        k += 1
        depth += {"if": 1, "while": 1, "end": -1}.get(rows[k][0], 0)
    return k


def else_of(rows, k):
    for other in range(k + 1, end_of(rows, k)):
        if rows[other][0] == "else" and end_of(rows, other) == end_of(rows, k):
            return other
    return None


WHERE_NAMES = {"copy": (1, 2), "op": (1, 3, 4), "new": (1,), "get": (1, 2), "put": (1, 3), "call": (1,)}


def all_names(function):
    found = list(function[2])
    for row in function[3]:
        parts = [row[k] for k in WHERE_NAMES.get(row[0], range(1, len(row)))]
        if row[0] == "call":
            parts += row[3]
        for part in parts:
            if isinstance(part, str) and part not in found:
                found.append(part)
    return found


class Nested:
    """The plain walk as a generator: it yields at each stop, and is nested as the rows are."""

    def __init__(self, program, args):
        self.program = {function[0]: function for function in program}
        self.stack, self.out, self.fields, self.count = [], [], {}, 0
        self.deed, self.answer, self.ended = None, None, False
        self.going = self.whole(program[-1][0], args)
        next(self.going)

    def whole(self, name, args):
        self.answer = yield from self.function(name, args)
        self.ended = True

    def step(self):
        self.deed = None
        next(self.going, None)
        return self.deed

    def frames(self):
        return [(name, row) for name, row, _ in self.stack]

    def function(self, name, args):
        function = self.program[name]
        named = {one: 0 for one in all_names(function)}
        named.update(zip(function[2], args))
        frame = [name, 0, named]
        self.stack.append(frame)
        back = yield from self.block(frame, function[3], 0, len(function[3]))
        return back

    def block(self, frame, rows, k, end):
        while k < end:
            row = rows[k]
            frame[1] = k
            yield
            if row[0] == "back":
                worth = self.worth(frame, row[1])
                self.stack.pop()
                return worth
            if row[0] == "if":
                other, last = else_of(rows, k), end_of(rows, k)
                if self.worth(frame, row[1]):
                    back = yield from self.block(frame, rows, k + 1, last if other is None else other)
                else:
                    back = yield from self.block(frame, rows, last if other is None else other + 1, last)
                if back is not None:
                    return back
                k = last
            elif row[0] == "while":
                if self.worth(frame, row[1]):
                    back = yield from self.block(frame, rows, k + 1, end_of(rows, k))
                    if back is not None:
                        return back
                    continue
                k = end_of(rows, k)
            elif row[0] == "call":
                frame[2][row[1]] = yield from self.function(row[2], [self.worth(frame, atom) for atom in row[3]])
            else:
                self.plain(frame, row)
            k += 1
        return None

    def worth(self, frame, atom):
        return frame[2][atom] if isinstance(atom, str) else atom

    def plain(self, frame, row):
        named = frame[2]
        if row[0] == "copy":
            named[row[1]] = self.worth(frame, row[2])
        elif row[0] == "op":
            named[row[1]] = sign_value(row[2], self.worth(frame, row[3]), self.worth(frame, row[4]))
        elif row[0] == "new":
            self.count += 1
            named[row[1]] = self.count
            self.deed = ("new", self.count)
        elif row[0] == "get":
            named[row[1]] = self.fields.get((self.worth(frame, row[2]), row[3]), 0)
        elif row[0] == "put":
            self.deed = ("put", self.worth(frame, row[1]), row[2], self.worth(frame, row[3]))
            self.fields[self.deed[1:3]] = self.deed[3]
        else:
            self.out.append(self.worth(frame, row[1]))
            self.deed = ("out", self.out[-1])


NAMES = ("a", "b", "c", "d")
FIELDS = ("f", "g")
FUNCTIONS = ("one", "two", "three", "four", "five")


def some_atom(rng):
    return rng.choice(NAMES) if rng.random() < 0.75 else rng.choice(EDGES)


def some_row(rng, callees):
    kind = rng.choice(("copy", "op", "op", "new", "get", "put", "out") + (("call",) * 2 if callees else ()))
    name = rng.choice(NAMES)
    if kind == "copy":
        return ("copy", name, some_atom(rng))
    if kind == "op":
        return ("op", name, rng.choice(SIGNS), some_atom(rng), some_atom(rng))
    if kind == "new":
        return ("new", name)
    if kind == "get":
        return ("get", name, some_atom(rng), rng.choice(FIELDS))
    if kind == "put":
        return ("put", some_atom(rng), rng.choice(FIELDS), some_atom(rng))
    if kind == "out":
        return ("out", some_atom(rng))
    callee, count = rng.choice(callees)
    return ("call", name, callee, tuple(some_atom(rng) for _ in range(count)))


def some_block(rng, callees, most, depth):
    rows = []
    for _ in range(rng.randint(0, most)):
        chance = rng.random()
        if chance < 0.15 and depth:
            rows += [("if", some_atom(rng))] + some_block(rng, callees, most, depth - 1)
            if rng.random() < 0.5:
                rows += [("else",)] + some_block(rng, callees, most, depth - 1)
            rows += [("end",)]
        elif chance < 0.3 and depth:
            rows += [("while", some_atom(rng))] + some_block(rng, callees, most, depth - 1) + [("end",)]
        elif chance < 0.33:
            rows += [("back", some_atom(rng))]
        else:
            rows += [some_row(rng, callees)]
    return rows


def some_program(rng, most=4, depth=2, functions=3, folded=0.5, least=1):
    """A program in order; any function calls any, so that a walk of it may never end."""
    heads = [(name, rng.randint(0, 3)) for name in FUNCTIONS[:rng.randint(least, functions)]]
    program = []
    for name, count in heads:
        rows = some_block(rng, heads, most, depth) + [("back", some_atom(rng))]
        program.append((name, rng.random() < folded, NAMES[:count], tuple(rows)))
    return program


def some_long_block(rng, names, callees, length):
    rows, opened = [], 0
    while len(rows) + opened < length:
        chance = rng.random()
        if chance < 0.12 and opened < 4:
            rows.append((rng.choice(("if", "while")), rng.choice(names)))
            opened += 1
        elif chance < 0.24 and opened:
            rows.append(("end",))
            opened -= 1
        elif chance < 0.32 and callees:
            callee, count = rng.choice(callees)
            rows.append(("call", rng.choice(names), callee, tuple(rng.choice(names) for _ in range(count))))
        else:
            name, one, other = (rng.choice(names) for _ in range(3))
            rows.append(rng.choice((("op", name, rng.choice(SIGNS), one, other),) * 4 + (
                ("copy", name, one), ("get", name, one, "f"), ("put", one, "f", other), ("new", name), ("out", one))))
    return tuple(rows + [("end",)] * opened + [("back", rng.choice(names))])


def some_big_program(rng):
    """Twelve functions of twenty-four names and six params, each of which calls some of those ahead of it."""
    program = []
    lengths = rng.randint(3, 9), rng.randint(8, 16)
    for k in range(11):
        name, names = "f" + "abcdefghijk"[k], [letter + "abcdefghijk"[k] for letter in "abcdefghijklmnopqrstuvwx"]
        callees = [(function[0], 6) for function in program[-4:]]
        rows = some_long_block(rng, names, callees, lengths[k > 5])
        program.append((name, rng.random() < 0.8, tuple(names[:6]), rows))
    # The last one reads and gives all of its names.
    names = ["x" + letter for letter in "abcdefghijklmnopqrstuvwx"]
    rows = tuple(("op", name, "+", name, 1) for name in names) + some_long_block(rng, names, callees, 12)
    return program + [("main", False, tuple(names[:6]), rows)]


def some_args(rng, program):
    return [rng.choice(EDGES) for _ in program[-1][2]]


def leaves_of(one):
    return [one] if one[0] in ("box", "num") else leaves_of(one[1]) + leaves_of(one[2])


def joined(sign, left, right):
    if left[0] == right[0] == "num":
        return ("num", sign_value(sign, left[1], right[1]))
    return (sign, left, right)


class TooManySpots(Exception):
    pass


class SomeCode:
    """Code and marks of one function that hold: what is put off, left out, kept and put in place is made up.

    Each name (level, text) has a box of its own. Where two ways meet, names are in their boxes or gone; elsewhere
    they are what the one way leaves of them.
    """

    OWN = ("own",)

    def __init__(self, rng, program, name, fold=0.5):
        self.rng, self.fold, self.name = rng, fold, name
        self.functions = {function[0]: function for function in program}
        self.names = {function[0]: all_names(function) for function in program}
        self.ways_of = {function[0]: ways(function[3]) for function in program}
        self.chosen, self.homes = {}, {(0, param): k for k, param in enumerate(self.functions[name][2])}
        self.stations, self.ways = [(((name, 0),), False)], []
        while len(self.ways) < len(self.stations):
            self.ways.append([self.number(station) for station in self.leads(*self.stations[len(self.ways)])])
        self.needed = self.needs()
        counts = [sum(way.count(k) for way in self.ways) + (k == 0) for k in range(len(self.stations))]
        self.heads = [count > 1 or k and not self.stations[k][1] and self.choose(("head", k), 0.1)
                      for k, count in enumerate(counts)]
        self.gone = {}
        while not self.build():
            pass

    def choose(self, key, chance):
        """The same each time that it is asked, so that the code may be built again."""
        if key not in self.chosen:
            self.chosen[key] = self.rng.random() < chance
        return self.chosen[key]

    def number(self, station):
        if station not in self.stations:
            self.stations.append(station)
        if len(self.stations) > 150:
            raise TooManySpots()
        return self.stations.index(station)

    def row(self, chain):
        return self.functions[chain[-1][0]][3][chain[-1][1]]

    def moved(self, chain, way=0):
        function, row = chain[-1]
        return chain[:-1] + ((function, self.ways_of[function][row][way]),)

    def leads(self, chain, wait):
        row = self.row(chain)
        if row[0] == "call" and not wait:
            if len(chain) < 3 and self.choose(("in", chain), self.fold):
                return [(chain + ((row[2], 0),), False)]
            return [(chain, True)]
        if row[0] == "back":
            return [] if len(chain) == 1 else [(self.moved(chain[:-1]), False)]
        if row[0] in ("if", "while"):
            return [(self.moved(chain, 0), False), (self.moved(chain, 1), False)]
        return [(self.moved(chain), False)]

    def all_names_at(self, k):
        return [(level, name) for level, frame in enumerate(self.stations[k][0]) for name in self.names[frame[0]]]

    def home(self, name):
        return self.homes.setdefault(name, len(self.homes))

    def needs(self):
        needed, again = [set() for _ in self.stations], True
        while again:
            again = False
            for k, (chain, wait) in enumerate(self.stations):
                row, level = self.row(chain), len(chain) - 1
                found = set().union(*[needed[way] for way in self.ways[k]])
                outer = (level - 1, self.row(chain[:-1])[1]) if level and row[0] == "back" else None
                given = (level, row[1]) if wait or row[0] in ("copy", "op", "get", "new") else outer
                found = {name for name in found - {given} if name[0] <= level}
                if not wait:
                    found |= {(level, name) for name in reads(row)}
                again = again or found != needed[k]
                needed[k] = found
        return needed

    def build(self):
        """False where a name turned out gone at a head: then all is built again."""
        self.marks, self.spots = [None] * len(self.stations), []
        for k in range(len(self.stations)):
            if self.heads[k]:
                for name in self.all_names_at(k):
                    if name not in self.needed[k] and self.choose(("gone", k, name), 0.3):
                        self.gone[k, name] = True
                self.marks[k] = {name: None if (k, name) in self.gone else ("box", self.home(name))
                                 for name in self.all_names_at(k)}
        if not self.heads[0]:
            params = self.functions[self.name][2]
            self.marks[0] = {name: self.begun(name) for name in self.all_names_at(0)}
            self.marks[0].update({(0, param): ("box", k) for k, param in enumerate(params)})
        for k in range(len(self.stations)):
            spot = self.spot(k)
            if spot is None:
                return False
            self.spots.append(spot)
        return True

    def begun(self, name):
        if name not in self.needed[0] and self.choose(("gone", 0, name), 0.2):
            return None
        return ("num", 0) if self.choose(("begun", name), 0.5) else ("box", self.home(name))

    def place(self, k, atom):
        return self.marks[k][len(self.stations[k][0]) - 1, atom] if isinstance(atom, str) else ("num", atom)

    def behind(self, k):
        (chain, wait), names = self.stations[k], dict(self.marks[k])
        row, level = self.row(chain), len(chain) - 1
        if wait or row[0] in ("get", "new"):
            names[level, row[1]] = self.OWN
        elif row[0] == "copy":
            names[level, row[1]] = self.place(k, row[2])
        elif row[0] == "op":
            left, right = self.place(k, row[3]), self.place(k, row[4])
            names[level, row[1]] = None if left is None or right is None else joined(row[2], left, right)
        elif row[0] == "call" and not self.stations[self.ways[k][0]][1]:
            names.update({(level + 1, name): ("num", 0) for name in self.names[row[2]]})
            for param, atom in zip(self.functions[row[2]][2], row[3]):
                names[level + 1, param] = self.place(k, atom)
        elif row[0] == "back" and level:
            names = {name: place for name, place in names.items() if name[0] < level}
            names[level - 1, self.row(chain[:-1])[1]] = self.place(k, row[1])
        return names

    def spot(self, k):
        chain, wait = self.stations[k]
        row, behind = self.row(chain), self.behind(k)
        fresh = [name for name, place in behind.items() if place == self.OWN]
        box = None
        for name in fresh:
            if name in self.needed[self.ways[k][0]] or self.choose(("fill", k), 0.5):
                box = self.home(name)
            if row[0] == "get" and not wait and box is None and self.choose(("left out", k), 0.5):
                behind[name], fresh = None, []
        sets = {}
        for way in self.ways[k]:
            for name, place in self.marks[way].items() if self.heads[way] else ():
                if place is not None and (behind[name] is None or behind[name] == self.OWN and box is None):
                    self.gone[way, name] = True
                    return None
                if place is not None and behind[name] not in (place, self.OWN):
                    sets[self.home(name)] = behind[name]
        wanted = {name for way in self.ways[k] if not self.heads[way] for name in self.all_names_at(way)
                  if name in self.needed[way] or self.choose(("keep", way, name), 0.7)}
        self.more_sets(k, sets, box, {name: behind[name] for name in sorted(wanted)})
        for way in self.ways[k]:
            if not self.heads[way]:
                self.marks[way] = {name: self.kept(behind[name], sets, box) if name in wanted else None
                                   for name in self.all_names_at(way)}
        listed = list(sets.items())
        self.rng.shuffle(listed)
        return (listed, self.act(k, box, bool(fresh)))

    def more_sets(self, k, sets, box, wanted):
        known = {name: place for name, place in wanted.items() if place not in (None, self.OWN)}
        for name, place in known.items():
            if len(leaves_of(place)) > 8:
                sets[self.home(name)] = place
            elif self.choose(("early", k, name), 0.1):
                sets[100 + len(sets)] = place
        again = True
        while again:
            again = False
            for name, place in known.items():
                if place not in sets.values() and self.hangs(place, sets, box):
                    sets[self.home(name)] = place
                    again = True

    def hangs(self, place, sets, box):
        return any(leaf[0] == "box" and (leaf[1] in sets or leaf[1] == box) for leaf in leaves_of(place))

    def kept(self, place, sets, box):
        if place is None:
            return None
        if place == self.OWN:
            return None if box is None else ("box", box)
        boxes = [one for one in sorted(sets) if sets[one] == place and one != box]
        if boxes and (self.hangs(place, sets, box) or len(leaves_of(place)) > 8 or self.rng.random() < 0.5):
            return ("box", boxes[0])
        return None if self.hangs(place, sets, box) or len(leaves_of(place)) > 8 else place

    def act(self, k, box, filled):
        (chain, wait), to = self.stations[k], self.ways[k]
        row = self.row(chain)
        if wait:
            return ("wait", box, to[0])
        if row[0] == "get" and filled:
            return ("get", self.place(k, row[2]), row[3], box, to[0])
        if row[0] == "new":
            return ("new", box, to[0])
        if row[0] == "put":
            return ("put", self.place(k, row[1]), row[2], self.place(k, row[3]), to[0])
        if row[0] == "out":
            return ("out", self.place(k, row[1]), to[0])
        if row[0] in ("if", "while"):
            return ("if", self.place(k, row[1]), to[0], to[1])
        if row[0] == "call" and self.stations[to[0]][1]:
            return ("call", row[2], tuple(self.place(k, atom) for atom in row[3]), to[0])
        if row[0] == "back" and not to:
            return ("back", self.place(k, row[1]))
        return ("go", to[0])

    def listed_marks(self):
        return [(chain, [[self.marks[k][level, name] for name in self.names[frame[0]]]
                         for level, frame in enumerate(chain)])
                for k, (chain, _) in enumerate(self.stations)]


def some_code(rng, program, fold=0.5):
    """Code and table that hold."""
    code, table = [], []
    for function in program:
        try:
            one = SomeCode(rng, program, function[0], fold)
        except TooManySpots:
            one = SomeCode(rng, program, function[0], 0)
        code.append((function[0], one.spots))
        table.append((function[0], one.listed_marks()))
    return code, table
