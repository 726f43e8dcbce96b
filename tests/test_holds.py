"""Whether whole code and tables hold, and what is promised of those that do."""

import copy
import random
import unittest

from stopglass.codewalk import CodeWalker
from stopglass.flows import ways
from stopglass.holds import holds, spot_holds
from stopglass.texts import read
from stopglass.walkers import TextWalker

from tests.helper import (
    EDGES, SIGNS, Unchanged, all_names, joined, leaves_of, some_args, some_code, some_program)


def box(k):
    return ("box", k)


def num(v):
    return ("num", v)


# Each of the twelve kinds of rows; sq stands in place of its call in main, and far is called.
PROGRAM = read("""fn far a
out a
b = new
put b f a
back b
in sq n
m = n * n
back m
fn main a
s = 0
while a
if a
t = call sq a
else
t = 7
end
r = call far t
q = get r f
s = s + q
a = a - 1
end
back s""")
N0, N1 = box(0), box(1)
CODE = [
    ("far", [([], ("out", N0, 1)), ([], ("new", 1, 2)), ([], ("put", N1, "f", N0, 3)), ([], ("back", N1))]),
    ("sq", [([], ("go", 1)), ([], ("back", ("*", N0, N0)))]),
    ("main", [
        ([(1, num(0))], ("go", 1)),
        ([], ("if", N0, 2, 11)),
        ([], ("if", N0, 3, 6)),
        ([], ("go", 4)),
        ([], ("go", 5)),
        ([(2, ("*", N0, N0))], ("go", 7)),
        ([(2, num(7))], ("go", 7)),
        ([], ("call", "far", (box(2),), 8)),
        ([], ("wait", 3, 9)),
        ([], ("get", box(3), "f", 4, 10)),
        ([(1, ("+", N1, box(4))), (5, box(0))], ("go", 12)),
        ([], ("back", N1)),
        ([(0, ("-", box(5), num(1)))], ("go", 1)),
    ]),
]


def mark(row, a=N0, s=N1, t=None, r=None, q=None):
    return ((("main", row),), [[a, s, t, r, q]])


MAIN = [[N0, N1, None, None, None]]
TABLE = [
    ("far", [((("far", 0),), [[N0, num(0)]]), ((("far", 1),), [[N0, None]]), ((("far", 2),), [[N0, N1]]),
             ((("far", 3),), [[N0, N1]])]),
    ("sq", [((("sq", 0),), [[N0, num(0)]]), ((("sq", 1),), [[N0, ("*", N0, N0)]])]),
    ("main", [
        mark(0, s=num(0)), mark(1), mark(2), mark(3),
        ((("main", 3), ("sq", 0)), MAIN + [[N0, num(0)]]),
        ((("main", 3), ("sq", 1)), MAIN + [[N0, ("*", N0, N0)]]),
        mark(5), mark(7, t=box(2)), mark(7, t=box(2)), mark(8, t=box(2), r=box(3)),
        mark(9, t=box(2), r=box(3), q=box(4)), mark(12), mark(10, box(5), N1, box(2), box(3), box(4)),
    ]),
]


def literal_equal(place, news, wanted):
    """What a place is, put through the boxes behind, against what its name is behind the row."""
    def through(one):
        if one[0] == "num":
            return one
        if one[0] == "box":
            return news[one[1]] if one[1] in news else one
        return joined(one[0], through(one[1]), through(one[2]))
    return place is None or wanted is not None and through(place) == wanted


class Literal:
    """The document's points 26 to 31, taken literally, names told by (level, text)."""

    OWN = ("the sign",)

    def __init__(self, program, code, table):
        self.program, self.code, self.table = program, code, table
        self.functions = {function[0]: function for function in program}
        self.names = {function[0]: all_names(function) for function in program}
        self.ways = {function[0]: ways(function[3]) for function in program}

    def holds(self):
        names = [function[0] for function in self.program]
        if [name for name, _ in self.code] != names or [name for name, _ in self.table] != names:
            return False
        for (name, spots), (_, marks) in zip(self.code, self.table):
            self.spots, self.marks = spots, marks
            if len(spots) < 1 or len(spots) != len(marks):
                return False
            if not all(self.numbers(*spot) for spot in spots):
                return False
            if not all(self.fits(name, k) for k in range(len(spots))) or not self.begin(name):
                return False
            if not all(self.step(k) for k in range(len(spots))):
                return False
        return True

    def numbers(self, sets, act):
        for one, _ in sets:
            if [other for other, _ in sets].count(one) > 1:
                return False
        last = {"back": [], "if": act[-2:]}.get(act[0], act[-1:])
        return all(k in range(len(self.spots)) for k in last)

    def row(self, frame):
        return self.functions[frame[0]][3][frame[1]]

    def way(self, frame, way=0):
        return (frame[0], self.ways[frame[0]][frame[1]][way])

    def fits(self, name, k):
        chain, views = self.marks[k]
        if not chain or chain[0][0] != name:
            return False
        for function, row in chain:
            if function not in self.functions or row not in range(len(self.functions[function][3])):
                return False
            if self.row((function, row))[0] in ("else", "end"):
                return False
        for level in range(len(chain) - 1):
            if self.row(chain[level])[0] != "call" or self.row(chain[level])[2] != chain[level + 1][0]:
                return False
        if self.spots[k][1][0] == "wait" and self.row(chain[-1])[0] != "call":
            return False
        if len(views) != len(chain):
            return False
        return all(len(places) == len(self.names[frame[0]]) for places, frame in zip(views, chain))

    def begin(self, name):
        if self.spots[0][1][0] == "wait" or self.marks[0][0] != ((name, 0),):
            return False
        params = list(self.functions[name][2])
        news = {k: num(0) for k in range(len(params), 200)}
        for (_, text), place in self.told(0).items():
            if not literal_equal(place, news, box(params.index(text)) if text in params else num(0)):
                return False
        return True

    def told(self, k):
        chain, views = self.marks[k]
        return {(level, name): views[level][at] for level, (function, _) in enumerate(chain)
                for at, name in enumerate(self.names[function])}

    def arrival(self, to, chain, behind, news, wait=False):
        if (self.spots[to][1][0] == "wait") != wait or self.marks[to][0] != chain:
            return False
        return all(literal_equal(place, news, behind[name]) for name, place in self.told(to).items())

    def step(self, k):
        (sets, act), (chain, _) = self.spots[k], self.marks[k]
        ahead, row, level = self.told(k), self.row(chain[-1]), len(chain) - 1
        behind, news = dict(ahead), dict(sets)
        filled = {"get": 3, "new": 1, "wait": 1}.get(act[0])
        if filled and act[filled] is not None:
            news[act[filled]] = self.OWN

        def atom(one):
            return num(one) if isinstance(one, int) else ahead[level, one]

        moved = chain[:-1] + ((self.way(chain[-1]),) if row[0] != "back" else ())
        if act[0] == "wait":
            behind[level, row[1]] = self.OWN
            return self.arrival(act[2], moved, behind, news)
        kind = row[0]
        if kind in ("copy", "op") and act[0] == "go":
            atoms = [atom(one) for one in row[2 if kind == "copy" else 3:]]
            behind[level, row[1]] = None if None in atoms else atoms[0] if kind == "copy" else joined(row[2], *atoms)
            return self.arrival(act[1], moved, behind, news)
        if kind == "get" and act[0] in ("get", "go"):
            behind[level, row[1]] = self.OWN if act[0] == "get" else None
            if act[0] == "get" and (atom(row[2]) is None or act[1:3] != (atom(row[2]), row[3])):
                return False
            return self.arrival(act[-1], moved, behind, news)
        if kind == "new" and act[0] == "new":
            behind[level, row[1]] = self.OWN
            return self.arrival(act[2], moved, behind, news)
        if kind == "put" and act[0] == "put":
            return act[1:4] == (atom(row[1]), row[2], atom(row[3])) and self.arrival(act[4], moved, behind, news)
        if kind == "out" and act[0] == "out":
            return act[1] == atom(row[1]) and self.arrival(act[2], moved, behind, news)
        if kind in ("if", "while") and act[0] == "if":
            no = chain[:-1] + (self.way(chain[-1], 1),)
            return (act[1] == atom(row[1]) and self.arrival(act[2], moved, behind, news)
                    and self.arrival(act[3], no, behind, news))
        if kind == "call" and act[0] == "call":
            return (act[1] == row[2] and list(act[2]) == [atom(one) for one in row[3]]
                    and self.arrival(act[3], chain, ahead, news, True))
        if kind == "call" and act[0] == "go":
            for name in self.names[row[2]]:
                behind[level + 1, name] = num(0)
            for param, one in zip(self.functions[row[2]][2], row[3]):
                behind[level + 1, param] = atom(one)
            return self.arrival(act[1], chain + ((row[2], 0),), behind, news)
        if kind == "back" and act[0] == "back" and level == 0:
            return act[1] == atom(row[1])
        if kind == "back" and act[0] == "go" and level > 0:
            behind[level - 1, self.row(chain[-2])[1]] = atom(row[1])
            return self.arrival(act[1], chain[:-2] + (self.way(chain[-2]),), behind, news)
        return False


class HoldsTest(unittest.TestCase):
    def told(self, program, code, table, expected, why=None):
        with Unchanged(self, program, code, table):
            found = holds(program, code, table)
        self.assertIs(found, expected, why)
        self.assertIs(Literal(program, code, table).holds(), expected, why)

    def changed(self, change, expected=False):
        code, table = copy.deepcopy((CODE, TABLE))
        change(code, table)
        self.assertNotEqual((code, table), (CODE, TABLE))
        self.told(PROGRAM, code, table, expected)

    def test_good(self):
        self.told(PROGRAM, CODE, TABLE, True)
        for (name, spots), (_, marks) in zip(CODE, TABLE):
            for k in range(len(spots)):
                self.assertIs(spot_holds(PROGRAM, spots, marks, k), True, (name, k))

    def test_all_kinds_of_acts_are_in_it(self):
        kinds = {act[0] for _, spots in CODE for _, act in spots}
        self.assertEqual(kinds, {"go", "if", "out", "put", "get", "new", "call", "wait", "back"})

    def test_entries(self):
        for part in (0, 1):
            for change in (lambda one: one.append(one[-1]), lambda one: one.append(one[0]), lambda one: one.pop(),
                           lambda one: one.pop(0), lambda one: one.reverse(), lambda one: one.clear(),
                           lambda one: one.__setitem__(1, ("other", one[1][1])),
                           lambda one: one.__setitem__(slice(0, 2), [one[1], one[0]]),
                           lambda one: one.insert(1, ("other", one[1][1]))):
                self.changed(lambda code, table: change((code, table)[part]))
        self.changed(lambda code, table: (code.reverse(), table.reverse()))
        self.changed(lambda code, table: (code.pop(), table.pop()))
        self.changed(lambda code, table: (code.clear(), table.clear()))
        self.changed(lambda code, table: (code.append(("more", code[0][1])), table.append(("more", table[0][1]))))

    def test_numbers_of_marks_and_spots(self):
        for k in range(3):
            self.changed(lambda code, table: table[k][1].pop())
            self.changed(lambda code, table: table[k][1].append(table[k][1][-1]))
            self.changed(lambda code, table: code[k][1].pop())
            self.changed(lambda code, table: code[k][1].append(code[k][1][-1]))
            self.changed(lambda code, table: (code[k][1].clear(), table[k][1].clear()))
            self.changed(lambda code, table: table[k][1].clear())
            self.changed(lambda code, table: code[k][1].clear())

    def test_a_spot_more_that_no_walk_comes_to(self):
        def good(code, table):
            code[1][1].append(([], ("back", num(3))))
            table[1][1].append(((("sq", 1),), [[None, num(3)]]))

        def bad(code, table):
            good(code, table)
            code[1][1][-1] = ([], ("back", num(4)))

        self.changed(good, True)
        self.changed(bad)

    def test_a_box_set_twice(self):
        for k, (_, spots) in enumerate(CODE):
            for at, (sets, _) in enumerate(spots):
                self.changed(lambda code, table: code[k][1][at][0].extend([(90, num(1)), (90, num(1))]))
                self.changed(lambda code, table: code[k][1][at][0].extend([(90, num(1)), (91, num(1)), (90, num(2))]))
                self.changed(lambda code, table: code[k][1][at][0].extend([(90, num(1)), (91, num(1))]), True)
                if sets:
                    self.changed(lambda code, table: code[k][1][at][0].append(code[k][1][at][0][0]))

    def test_numbers_of_spots(self):
        for k, (_, spots) in enumerate(CODE):
            for at, (_, act) in enumerate(spots):
                numbers = {"back": (), "if": (-2, -1)}.get(act[0], (-1,))
                for number in numbers:
                    for to in (-1, -len(spots), len(spots), len(spots) + 1, -1000, 1000,
                               act[number] - len(spots), act[number] + len(spots)):
                        other = list(act)
                        other[number] = to

                        def change(code, table):
                            code[k][1][at] = (code[k][1][at][0], tuple(other))

                        self.changed(change)

    def test_views(self):
        for k, (_, marks) in enumerate(TABLE):
            for at, (chain, views) in enumerate(marks):
                self.changed(lambda code, table: table[k][1][at][1].pop())
                self.changed(lambda code, table: table[k][1][at][1].append([None] * 2))
                self.changed(lambda code, table: table[k][1][at][1].append([]))
                self.changed(lambda code, table: table[k][1][at][1].clear())
                for level in range(len(chain)):
                    self.changed(lambda code, table: table[k][1][at][1][level].append(None))
                    self.changed(lambda code, table: table[k][1][at][1][level].pop())
                    self.changed(lambda code, table: table[k][1][at][1][level].clear())

    def test_chains(self):
        for k, (name, marks) in enumerate(TABLE):
            for at, (chain, views) in enumerate(marks):
                for other in ((), chain[:-1], chain + chain[-1:], ((name, -1),), ((name, 99),), (("other", 0),),
                              chain[:-1] + ((chain[-1][0], chain[-1][1] - len(PROGRAM[k][3])),),
                              chain[:-1] + (("sq" if chain[-1][0] == "far" else "far", chain[-1][1]),)):
                    def change(code, table):
                        table[k][1][at] = (other, table[k][1][at][1])

                    self.changed(change)

    def test_marks_at_else_and_end_rows(self):
        for row in (4, 6, 11):
            def change(code, table):
                table[2][1].append(mark(row))
                code[2][1].append(([], ("go", 0)))

            self.changed(change)

    def test_a_wait_spot_at_no_call(self):
        def change(code, table):
            code[2][1].append(([], ("wait", None, 11)))
            table[2][1].append(((("main", 10),), [[None] * 5]))

        self.changed(change)

    def test_the_begin(self):
        self.changed(lambda code, table: table[2][1].__setitem__(0, mark(0, s=num(1))))
        self.changed(lambda code, table: table[2][1].__setitem__(0, mark(0, s=N0)))
        self.changed(lambda code, table: table[2][1].__setitem__(0, mark(0, t=N0)))
        self.changed(lambda code, table: table[2][1].__setitem__(0, mark(0, t=num(0))), True)
        self.changed(lambda code, table: table[2][1].__setitem__(0, mark(0, t=box(17))), True)
        self.changed(lambda code, table: table[0][1].__setitem__(0, ((("far", 0),), [[N1, num(0)]])))

    def test_a_place_gone(self):
        for k, (_, marks) in enumerate(TABLE):
            for at, (chain, views) in enumerate(marks):
                for level, places in enumerate(views):
                    for one in range(len(places)):
                        if places[one] is not None:
                            code, table = copy.deepcopy((CODE, TABLE))
                            table[k][1][at][1][level][one] = None
                            self.told(PROGRAM, code, table, Literal(PROGRAM, code, table).holds())

    def test_each_place_by_another(self):
        others = [num(0), num(1), num(7)] + [box(k) for k in range(7)] + [("*", N0, N0), ("+", N1, num(0))]
        bad = 0
        for k, (_, marks) in enumerate(TABLE):
            for at, (chain, views) in enumerate(marks):
                for level, places in enumerate(views):
                    for one in range(len(places)):
                        for other in others:
                            code, table = copy.deepcopy((CODE, TABLE))
                            table[k][1][at][1][level][one] = other
                            expected = Literal(PROGRAM, code, table).holds()
                            self.told(PROGRAM, code, table, expected)
                            bad += not expected
        self.assertGreater(bad, 500)

    def test_each_act_by_another(self):
        for k, (_, spots) in enumerate(CODE):
            acts = [act for _, act in spots]
            for at, (sets, act) in enumerate(spots):
                for other in acts:
                    if other != act:
                        code, table = copy.deepcopy((CODE, TABLE))
                        code[k][1][at] = (sets, other)
                        self.told(PROGRAM, code, table, Literal(PROGRAM, code, table).holds())

    def test_each_set_left_out_or_another(self):
        for k, (_, spots) in enumerate(CODE):
            for at, (sets, act) in enumerate(spots):
                for one in range(len(sets)):
                    self.changed(lambda code, table: code[k][1][at][0].pop(one))
                    self.changed(lambda code, table: code[k][1][at][0].__setitem__(one, (sets[one][0], num(99))))
                    self.changed(lambda code, table: code[k][1][at][0].__setitem__(one, (77, sets[one][1])))


def other_reckoning(rng, one):
    """One that is somewhat another."""
    if one is None or rng.random() < 0.3:
        return rng.choice((num(rng.choice(EDGES)), box(rng.randrange(6)), box(rng.randrange(6))))
    if one[0] in ("box", "num"):
        return (one[0], max(0, one[1] + rng.choice((-1, 1))))
    part = rng.randrange(3)
    if part == 0:
        return (rng.choice(SIGNS), one[1], one[2])
    return (one[0], other_reckoning(rng, one[1]), one[2]) if part == 1 else (one[0], one[1], other_reckoning(rng, one[2]))


def change_code(rng, program, spots, at):
    sets, act = spots[at]
    chance = rng.random()
    if chance < 0.25 and sets:
        sets.pop(rng.randrange(len(sets)))
    elif chance < 0.4 and sets:
        k = rng.randrange(len(sets))
        sets[k] = (sets[k][0], other_reckoning(rng, sets[k][1]))
    elif chance < 0.5:
        sets.append((rng.randrange(8), num(rng.choice(EDGES))))
    elif chance < 0.75:
        parts = list(act)
        k = rng.randrange(1, len(parts)) if len(parts) > 1 else 0
        if isinstance(parts[k], int):
            parts[k] = rng.choice((parts[k] + 1, parts[k] - 1, rng.randrange(len(spots))))
        elif parts[k] is None:
            parts[k] = rng.randrange(6)
        elif isinstance(parts[k], str) and k:
            parts[k] = rng.choice([function[0] for function in program] + ["f", "g"])
        elif isinstance(parts[k], tuple) and act[0] == "call":
            parts[k] = tuple(other_reckoning(rng, one) for one in parts[k])
        elif k:
            parts[k] = other_reckoning(rng, parts[k])
        spots[at] = (sets, tuple(parts))
    else:
        spots[at] = rng.choice(spots)


def change_table(rng, marks, at):
    chain, views = marks[at]
    chance = rng.random()
    level = rng.randrange(len(views))
    if chance < 0.45 and views[level]:
        views[level][rng.randrange(len(views[level]))] = None
    elif chance < 0.9 and views[level]:
        k = rng.randrange(len(views[level]))
        views[level][k] = other_reckoning(rng, views[level][k])
    elif chance < 0.95:
        marks[at] = (chain[:-1] + ((chain[-1][0], chain[-1][1] + rng.choice((-1, 1))),), views)
    else:
        marks[at] = copy.deepcopy(rng.choice(marks))


class SideBySideTest(unittest.TestCase):
    """Code and table that hold walk as the plain walk does, stop by stop."""

    def same_walk(self, program, code, table, args, most=60):
        plain, walker = TextWalker(program, args), CodeWalker(program, code, table, args)
        for _ in range(most):
            frames = plain.frames()
            self.assertEqual(walker.frames(), frames)
            self.assertEqual((walker.sent(), walker.answer(), walker.ended(), walker.contents),
                             (plain.sent(), plain.answer(), plain.ended(), plain.contents))
            for level in range(max(0, len(frames) - 4), len(frames)):
                for mate, name, place in walker.mates(level):
                    if mate == level and place is not None:
                        self.assertEqual(walker.told(level, name), plain.told(level, name))
            if plain.ended():
                return
            self.assertEqual(walker.step(), plain.step())

    def test_by_hand(self):
        for number in (0, 1, 2, 5, 12):
            self.same_walk(PROGRAM, CODE, TABLE, [number], 400)

    def test_made_up_code_holds_and_walks(self):
        rng = random.Random(31)
        kinds = {}
        for _ in range(100):
            program = some_program(rng, most=5)
            code, table = some_code(rng, program)
            with Unchanged(self, program, code, table):
                self.assertIs(holds(program, code, table), True)
            self.assertIs(Literal(program, code, table).holds(), True)
            for _ in range(2):
                self.same_walk(program, code, table, some_args(rng, program))
            for _, spots in code:
                for sets, act in spots:
                    kinds[act[0]] = kinds.get(act[0], 0) + 1
        self.assertEqual(len(kinds), 9)

    def test_one_thing_changed_is_found_or_still_true(self):
        rng = random.Random(37)
        told = {True: 0, False: 0}
        for _ in range(60):
            program = some_program(rng, most=4)
            good = some_code(rng, program)
            for _ in range(40):
                code, table = copy.deepcopy(good)
                k = rng.randrange(len(program))
                at = rng.randrange(len(code[k][1]))
                if rng.random() < 0.5:
                    change_code(rng, program, code[k][1], at)
                else:
                    change_table(rng, table[k][1], at)
                if (code, table) == good:
                    continue
                with Unchanged(self, program, code, table):
                    found = holds(program, code, table)
                self.assertIs(found, Literal(program, code, table).holds(), (program, code[k], table[k]))
                told[found] += 1
                if found:
                    self.same_walk(program, code, table, some_args(rng, program))
        self.assertGreater(told[True], 200)
        self.assertGreater(told[False], 800)

    def test_places_of_eight_leaves(self):
        rng = random.Random(41)
        most = 0
        for _ in range(30):
            rows = [("op", rng.choice("abcd"), rng.choice(SIGNS), rng.choice("abcd"), rng.choice("abcd"))
                    for _ in range(20)]
            program = [("f", False, ("a", "b"), tuple(rows) + (("back", "a"),))]
            code, table = some_code(rng, program)
            self.assertIs(holds(program, code, table), True)
            self.same_walk(program, code, table, some_args(rng, program))
            most = max([most] + [len(leaves_of(one)) for sets, _ in code[0][1] for _, one in sets])
        self.assertGreater(most, 8)

    def test_the_whole_of_the_bounds(self):
        rows = tuple(("op", "a", "+", "a", k) for k in range(59)) + (("back", "a"),)
        program = [("abcdefghijkl"[k], False, ("a", "b"), rows) for k in range(12)]
        code, table = some_code(random.Random(1), program)
        self.assertIs(holds(program, code, table), True)
        self.same_walk(program, code, table, [3, 4], 70)


if __name__ == "__main__":
    unittest.main()
