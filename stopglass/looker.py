"""Whether a program is in order: its functions, their names, nests and calls."""

from stopglass.errors import BadCall, BadNest, NoFunction, TwiceNamed


def look(program):
    if len(program) == 0:
        raise NoFunction()
    look_for_twice([function[0] for function in program])
    counts = dict([(function[0], len(function[2])) for function in program])
    for name, folded, params, rows in program:
        look_for_twice(params)
        look_at_nests(name, rows)
        look_at_calls(name, rows, counts)
    return True


def look_for_twice(names):
    seen = {}
    for name in names:
        if name in seen:
            raise TwiceNamed(name)
        seen[name] = True


def look_at_nests(name, rows):
    still = []
    for at, row in enumerate(rows):
        kind = row[0]
        if kind in ("if", "while"):
            still.append(kind)
        elif kind == "end":
            if not still:
                raise BadNest(name, at)
            still.pop()
        elif kind == "else":
            if not still or still[-1] != "if":
                raise BadNest(name, at)
            # An if has one else: behind it, what is open is no if that may have another.
            still[-1] = "else"
    if still or not rows or rows[-1][0] != "back":
        raise BadNest(name, len(rows))


def look_at_calls(name, rows, counts):
    for at, row in enumerate(rows):
        if row[0] == "call" and counts.get(row[2]) != len(row[3]):
            raise BadCall(name, at)
