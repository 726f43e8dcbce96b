"""What each name is behind a row."""

import random
import unittest

from stopglass.errors import TooLong
from stopglass.places import behind
from stopglass.plans import plan
from stopglass.texts import read

from tests.helper import EDGES, SIGNS, Unchanged, all_names, joined, some_program

OWN = ("box", -1)


def box(k):
    return ("box", k)


def num(v):
    return ("num", v)


class Behind(unittest.TestCase):
    def behind(self, text, chain, changed, places, wait=False, gone_names=()):
        """Asked for is what was changed, beside all that was handed in, but for the names that are gone."""
        program = read(text)
        with Unchanged(self, program, chain, places):
            found = behind(program, chain, wait, places)
        self.assertIs(type(found), dict)
        expected = {name: place for name, place in {**places, **changed}.items() if name not in gone_names}
        self.assertEqual(found, expected, text)
        kept = dict(places)
        found.clear()
        self.assertEqual(places, kept)


class BehindRowsTest(Behind):
    def row(self, row, changed, places):
        """The first row of a function with the names a to d."""
        names = {(0, name): places.get(name) for name in "abcd"}
        changed = {(0, name): place for name, place in changed.items()}
        self.behind(f"fn main a b c d\n{row}\nback 0", (("main", 0),), changed, names)

    def test_copy(self):
        self.row("b = a", {"b": box(4)}, {"a": box(4), "b": box(1)})
        self.row("b = a", {"b": None}, {"b": box(1)})
        self.row("b = b", {}, {"a": box(4), "b": box(1)})
        self.row("b = 5", {"b": num(5)}, {})
        self.row("b = a", {"b": ("+", box(0), box(0))}, {"a": ("+", box(0), box(0)), "b": num(3)})

    def test_op(self):
        for sign in SIGNS:
            self.row(f"c = a {sign} b", {"c": (sign, box(4), num(3))}, {"a": box(4), "b": num(3), "c": box(7)})
            self.row(f"a = a {sign} a", {"a": (sign, box(4), box(4))}, {"a": box(4)})
            self.row(f"c = 9 {sign} a", {"c": (sign, num(9), box(0))}, {"a": box(0)})

    def test_op_of_two_nums(self):
        for sign in SIGNS:
            for one in EDGES:
                for other in EDGES:
                    self.row(f"c = a {sign} {other}", {"c": joined(sign, num(one), num(other))}, {"a": num(one)})
        self.row("c = 2 + 3", {"c": num(5)}, {})

    def test_places_are_put_together_as_they_stand(self):
        # What is within a place is not put together again.
        apart = ("+", num(1), num(2))
        self.row("c = a * b", {"c": ("*", apart, num(2))}, {"a": apart, "b": num(2)})
        self.row("c = a", {"c": apart}, {"a": apart})

    def test_op_of_what_is_gone(self):
        self.row("c = a + b", {"c": None}, {"a": box(0), "c": box(2)})
        self.row("c = a + b", {"c": None}, {"b": box(0), "c": box(2)})
        self.row("c = a + b", {"c": None}, {"c": box(2)})
        self.row("c = c + 1", {"c": None}, {"a": box(0)})

    def test_op_of_more_than_eight_leaves(self):
        five = box(0)
        for k in range(1, 8):
            five = ("+", five, box(k))
        self.row("c = a - a", {"c": ("-", five, five)}, {"a": five})

    def test_get_and_new(self):
        for row in ("b = get a f", "b = new", "b = get 3 f", "b = get b f"):
            self.row(row, {"b": OWN}, {"a": box(0), "b": box(1), "c": ("+", box(0), box(1))})
            self.row(row, {"b": OWN}, {})

    def test_rows_that_change_nothing(self):
        places = {"a": box(0), "b": ("*", box(0), num(7)), "d": num(4)}
        for row in ("out a", "put a f b", "out c", "put c f c", "out 5"):
            self.row(row, {}, places)
            self.row(row, {}, {})
        for kind in ("if", "while"):
            for atom in ("a", "c", "1"):
                self.row(f"{kind} {atom}\nend", {}, places)

    def test_back_of_one_frame(self):
        for atom in ("a", "b", "5"):
            names = {(0, "a"): box(3), (0, "b"): None}
            self.behind(f"fn main a b\nback {atom}", (("main", 0),), {}, names)


CALLS = """in leaf x y
z = x
back {}
in mid p
q = call leaf {}
back q
in top s
t = call mid s
back t
fn main a b
c = call leaf {}
c = call later a
c = call main a b
c = call top a
back c
in later x
back x"""
TEXT = CALLS.format("x", "p p", "a b")


class BehindCallsTest(Behind):
    MAIN = {(0, "a"): box(0), (0, "b"): ("+", box(0), num(1)), (0, "c"): None}

    def at(self, row, *more):
        return (("main", row),) + more

    def test_into_a_function_in_place(self):
        self.behind(TEXT, self.at(0), {(1, "x"): box(0), (1, "y"): ("+", box(0), num(1)), (1, "z"): num(0)}, self.MAIN)

    def test_args_that_are_gone_and_values(self):
        text = CALLS.format("x", "p p", "c 8")
        self.behind(text, self.at(0), {(1, "x"): None, (1, "y"): num(8), (1, "z"): num(0)}, self.MAIN)

    def test_calls_that_do_not_stand_in_place(self):
        for row in (1, 2):
            self.behind(TEXT, self.at(row), {}, self.MAIN)
        unfolded = TEXT.replace("in leaf", "fn leaf")
        self.behind(unfolded, self.at(0), {}, self.MAIN)

    def test_waits(self):
        for row in (1, 2):
            self.behind(TEXT, self.at(row), {(0, "c"): OWN}, self.MAIN, True)
            self.behind(TEXT, self.at(row), {(0, "c"): OWN}, {(0, name): None for name in "abc"}, True)

    def test_the_third_frame_and_what_would_be_the_fourth(self):
        two = {**self.MAIN, (1, "s"): box(4), (1, "t"): num(0)}
        chain = self.at(3, ("top", 0))
        self.behind(TEXT, chain, {(2, "p"): box(4), (2, "q"): num(0)}, two)
        three = {**two, (2, "p"): box(4), (2, "q"): None}
        chain = self.at(3, ("top", 0), ("mid", 0))
        self.behind(TEXT, chain, {}, three)
        self.behind(TEXT, chain, {(2, "q"): OWN}, three, True)
        below = {(0, "s"): box(0), (0, "t"): num(1), (1, "p"): None, (1, "q"): box(2)}
        chain = (("top", 0), ("mid", 0))
        self.behind(TEXT, chain, {(2, "x"): None, (2, "y"): None, (2, "z"): num(0)}, below)

    def test_a_back_out_of_two_frames(self):
        inner = {(1, "x"): ("*", box(1), box(2)), (1, "y"): None, (1, "z"): num(6)}
        for atom, place in (("x", ("*", box(1), box(2))), ("y", None), ("z", num(6)), ("77", num(77))):
            text = CALLS.format(atom, "p p", "a b")
            self.behind(text, self.at(0, ("leaf", 1)), {(0, "c"): place}, {**self.MAIN, **inner}, False, list(inner))

    def test_a_back_out_of_three_frames(self):
        outer = {(0, "s"): None, (0, "t"): box(5), (1, "p"): box(6), (1, "q"): box(7)}
        inner = {(2, "x"): box(8), (2, "y"): box(9), (2, "z"): num(6)}
        chain = (("top", 0), ("mid", 0), ("leaf", 1))
        self.behind(TEXT, chain, {(1, "q"): box(8)}, {**outer, **inner}, False, list(inner))

    def test_rows_within_the_innermost_frame(self):
        places = {**self.MAIN, (1, "x"): box(3), (1, "y"): None, (1, "z"): box(2)}
        self.behind(TEXT, self.at(0, ("leaf", 0)), {(1, "z"): box(3)}, places)

    def test_names_alike_in_two_frames(self):
        text = "in f a b\na = b + 1\nback a\nfn main a b\nb = call f b a\nback b"
        outer = {(0, "a"): box(0), (0, "b"): box(1)}
        self.behind(text, (("main", 0),), {(1, "a"): box(1), (1, "b"): box(0)}, outer)
        inner = {(1, "a"): box(2), (1, "b"): box(3)}
        self.behind(text, (("main", 0), ("f", 0)), {(1, "a"): ("+", box(3), num(1))}, {**outer, **inner})
        self.behind(text, (("main", 0), ("f", 1)), {(0, "b"): box(2)}, {**outer, **inner}, False, list(inner))

    def test_get_and_new_within_two_frames(self):
        text = "in f\na = new\na = get b f\nback a\nfn main a b\nb = call f\nback b"
        places = {(0, "a"): box(0), (0, "b"): box(1), (1, "a"): None, (1, "b"): None}
        for row in (0, 1):
            self.behind(text, (("main", 0), ("f", row)), {(1, "a"): OWN}, places)


class SomeBehindTest(unittest.TestCase):
    """Points 29 to 31 by their words, at all stations of made-up programs."""

    def some_place(self, rng, depth=2):
        chance = rng.random()
        if chance < 0.2:
            return None
        if chance < 0.5:
            return box(rng.randrange(6))
        if chance < 0.75:
            return num(rng.choice(EDGES))
        left, right = None, None
        while left is None or right is None:
            left, right = self.some_place(rng, depth - 1), self.some_place(rng, depth - 1)
        return joined(rng.choice(SIGNS), left, right) if depth else box(0)

    def expected(self, functions, chain, wait, on, places):
        level = len(chain) - 1
        row = functions[chain[-1][0]][3][chain[-1][1]]
        place = lambda atom: places[level, atom] if isinstance(atom, str) else num(atom)
        found = dict(places)
        if wait or row[0] in ("new", "get"):
            found[level, row[1]] = OWN
        elif row[0] == "copy":
            found[level, row[1]] = place(row[2])
        elif row[0] == "op":
            two = place(row[3]), place(row[4])
            found[level, row[1]] = None if None in two else joined(row[2], *two)
        elif row[0] == "call" and len(on) > level + 1:
            for name in all_names(functions[row[2]]):
                found[level + 1, name] = num(0)
            for param, atom in zip(functions[row[2]][2], row[3]):
                found[level + 1, param] = place(atom)
        elif row[0] == "back" and level:
            found = {name: one for name, one in found.items() if name[0] < level}
            found[level - 1, functions[chain[-2][0]][3][chain[-2][1]][1]] = place(row[1])
        return found

    def test_made_up_programs(self):
        asked, kinds = 0, set()
        for seed in range(100):
            rng = random.Random(3000 + seed)
            program = some_program(rng, most=5, functions=4, folded=0.8)
            functions = {function[0]: function for function in program}
            for function in program:
                try:
                    stations = plan(program, function[0])
                except TooLong:
                    continue
                for chain, wait, on in stations:
                    places = {(level, name): self.some_place(rng) for level, frame in enumerate(chain)
                              for name in all_names(functions[frame[0]])}
                    to = stations[on[0]][0] if on else ()
                    with Unchanged(self, program, places):
                        found = behind(program, chain, wait, places)
                    self.assertEqual(found, self.expected(functions, chain, wait, to, places))
                    asked += 1
                    kinds.add((functions[chain[-1][0]][3][chain[-1][1]][0], wait, len(chain)))
        self.assertGreater(asked, 1000)
        self.assertGreater(len(kinds), 25)


if __name__ == "__main__":
    unittest.main()
