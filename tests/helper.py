"""What several tests lean on: made-up programs, and the plain walk told a second time, nest by nest."""

import copy

WIDE = 2 ** 48
SIGNS = ("+", "-", "*", "/", "<", "=", "&", "|", "^")
EDGES = (0, 1, 2, 3, 7, 255, 2 ** 24, 2 ** 47, WIDE - 2, WIDE - 1)


class Unchanged:
    """Within it, nothing of what was handed in may change."""

    def __init__(self, test, *handed):
        self.test, self.handed, self.ahead = test, handed, copy.deepcopy(handed)

    def __enter__(self):
        return self

    def __exit__(self, *error):
        self.test.assertEqual(self.handed, self.ahead)


def sign_value(sign, one, other):
    if sign == "/":
        return one // other if other else 0
    found = {
        "+": lambda: one + other, "-": lambda: one - other, "*": lambda: one * other, "<": lambda: int(one < other),
        "=": lambda: int(one == other), "&": lambda: one & other, "|": lambda: one | other, "^": lambda: one ^ other,
    }[sign]()
    return found % WIDE


def end_of(rows, k):
    depth = 1
    while depth > 0:
        k += 1
        depth += {"if": 1, "while": 1, "end": -1}.get(rows[k][0], 0)
    return k


def else_of(rows, k):
    for other in range(k + 1, end_of(rows, k)):
        if rows[other][0] == "else" and end_of(rows, other) == end_of(rows, k):
            return other
    return None


WHERE_NAMES = {"copy": (1, 2), "op": (1, 3, 4), "new": (1,), "get": (1, 2), "put": (1, 3), "call": (1,)}


def all_names(function):
    found = list(function[2])
    for row in function[3]:
        parts = [row[k] for k in WHERE_NAMES.get(row[0], range(1, len(row)))]
        if row[0] == "call":
            parts += row[3]
        for part in parts:
            if isinstance(part, str) and part not in found:
                found.append(part)
    return found


class Nested:
    """The plain walk as a generator: it yields at each stop, and is nested as the rows are."""

    def __init__(self, program, args):
        self.program = {function[0]: function for function in program}
        self.stack, self.out, self.fields, self.count = [], [], {}, 0
        self.deed, self.answer, self.ended = None, None, False
        self.going = self.whole(program[-1][0], args)
        next(self.going)

    def whole(self, name, args):
        self.answer = yield from self.function(name, args)
        self.ended = True

    def step(self):
        self.deed = None
        next(self.going, None)
        return self.deed

    def frames(self):
        return [(name, row) for name, row, _ in self.stack]

    def function(self, name, args):
        function = self.program[name]
        named = {one: 0 for one in all_names(function)}
        named.update(zip(function[2], args))
        frame = [name, 0, named]
        self.stack.append(frame)
        back = yield from self.block(frame, function[3], 0, len(function[3]))
        return back

    def block(self, frame, rows, k, end):
        while k < end:
            row = rows[k]
            frame[1] = k
            yield
            if row[0] == "back":
                worth = self.worth(frame, row[1])
                self.stack.pop()
                return worth
            if row[0] == "if":
                other, last = else_of(rows, k), end_of(rows, k)
                if self.worth(frame, row[1]):
                    back = yield from self.block(frame, rows, k + 1, last if other is None else other)
                else:
                    back = yield from self.block(frame, rows, last if other is None else other + 1, last)
                if back is not None:
                    return back
                k = last
            elif row[0] == "while":
                if self.worth(frame, row[1]):
                    back = yield from self.block(frame, rows, k + 1, end_of(rows, k))
                    if back is not None:
                        return back
                    continue
                k = end_of(rows, k)
            elif row[0] == "call":
                frame[2][row[1]] = yield from self.function(row[2], [self.worth(frame, atom) for atom in row[3]])
            else:
                self.plain(frame, row)
            k += 1
        return None

    def worth(self, frame, atom):
        return frame[2][atom] if isinstance(atom, str) else atom

    def plain(self, frame, row):
        named = frame[2]
        if row[0] == "copy":
            named[row[1]] = self.worth(frame, row[2])
        elif row[0] == "op":
            named[row[1]] = sign_value(row[2], self.worth(frame, row[3]), self.worth(frame, row[4]))
        elif row[0] == "new":
            self.count += 1
            named[row[1]] = self.count
            self.deed = ("new", self.count)
        elif row[0] == "get":
            named[row[1]] = self.fields.get((self.worth(frame, row[2]), row[3]), 0)
        elif row[0] == "put":
            self.deed = ("put", self.worth(frame, row[1]), row[2], self.worth(frame, row[3]))
            self.fields[self.deed[1:3]] = self.deed[3]
        else:
            self.out.append(self.worth(frame, row[1]))
            self.deed = ("out", self.out[-1])


NAMES = ("a", "b", "c", "d")
FIELDS = ("f", "g")


def some_atom(rng):
    return rng.choice(NAMES) if rng.random() < 0.75 else rng.choice(EDGES)


def some_row(rng, callees):
    kind = rng.choice(("copy", "op", "op", "new", "get", "put", "out") + (("call",) * 2 if callees else ()))
    name = rng.choice(NAMES)
    if kind == "copy":
        return ("copy", name, some_atom(rng))
    if kind == "op":
        return ("op", name, rng.choice(SIGNS), some_atom(rng), some_atom(rng))
    if kind == "new":
        return ("new", name)
    if kind == "get":
        return ("get", name, some_atom(rng), rng.choice(FIELDS))
    if kind == "put":
        return ("put", some_atom(rng), rng.choice(FIELDS), some_atom(rng))
    if kind == "out":
        return ("out", some_atom(rng))
    callee, count = rng.choice(callees)
    return ("call", name, callee, tuple(some_atom(rng) for _ in range(count)))


def some_block(rng, callees, most, depth):
    rows = []
    for _ in range(rng.randint(0, most)):
        chance = rng.random()
        if chance < 0.15 and depth:
            rows += [("if", some_atom(rng))] + some_block(rng, callees, most, depth - 1)
            if rng.random() < 0.5:
                rows += [("else",)] + some_block(rng, callees, most, depth - 1)
            rows += [("end",)]
        elif chance < 0.3 and depth:
            rows += [("while", some_atom(rng))] + some_block(rng, callees, most, depth - 1) + [("end",)]
        elif chance < 0.33:
            rows += [("back", some_atom(rng))]
        else:
            rows += [some_row(rng, callees)]
    return rows


def some_program(rng, most=4, depth=2, functions=3):
    """A program in order; any function calls any, so that a walk of it may never end."""
    heads = [(name, rng.randint(0, 3)) for name in ("one", "two", "three")[:rng.randint(1, functions)]]
    program = []
    for name, count in heads:
        rows = some_block(rng, heads, most, depth) + [("back", some_atom(rng))]
        program.append((name, rng.random() < 0.5, NAMES[:count], tuple(rows)))
    return program


def some_args(rng, program):
    return [rng.choice(EDGES) for _ in program[-1][2]]
