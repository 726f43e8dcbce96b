"""Whether programs are in order, and which refusal is due first."""

import itertools
import random
import unittest

from stopglass import errors
from stopglass.errors import BadCall, BadNest, NoFunction, TwiceNamed
from stopglass.looker import look

from tests.helper import Unchanged, some_program

COPY = ("copy", "x", 1)
IF = ("if", "a")
WHILE = ("while", "a")
ELSE = ("else",)
END = ("end",)
BACK = ("back", "x")
ALL = ("NoFunction", "TwiceNamed", "BadNest", "BadCall", "BadRow", "NoName", "Ended", "TooLong", "Gone", "NotBox",
       "Shared", "BadBits", "Untrue")


def fn(name, rows, params=()):
    return (name, False, tuple(params), tuple(rows))


def call(name, *args):
    return ("call", "x", name, args)


def bad_nest(rows):
    """The row where the nests are bad, by the document's words; None where they are not."""
    for at, row in enumerate(rows):
        if row[0] in ("else", "end"):
            depth, met = 0, None
            elses = 0
            for other in range(at - 1, -1, -1):
                kind = rows[other][0]
                if kind == "end":
                    depth += 1
                elif kind == "else" and depth == 0:
                    elses += 1
                elif kind in ("if", "while"):
                    if depth == 0:
                        met = kind
                        break
                    depth -= 1
            if met is None or row[0] == "else" and (met == "while" or elses):
                return at
    opened = len([row for row in rows if row[0] in ("if", "while")])
    closed = len([row for row in rows if row[0] == "end"])
    if opened != closed or not rows or rows[-1][0] != "back":
        return len(rows)
    return None


class LookTest(unittest.TestCase):
    def good(self, program):
        with Unchanged(self, program):
            self.assertIs(look(program), True)

    def refused(self, program, kind, **fields):
        with Unchanged(self, program), self.assertRaises(kind) as caught:
            look(program)
        self.assertIs(type(caught.exception), kind)
        self.assertEqual(vars(caught.exception), fields)
        for name, told in fields.items():
            self.assertIs(type(getattr(caught.exception, name)), type(told))
        for name in ALL:
            self.assertIs(isinstance(caught.exception, getattr(errors, name)), name == kind.__name__)
        self.assertIsInstance(caught.exception, errors.GlassError)
        self.assertIsInstance(caught.exception, ValueError)

    def test_good_programs(self):
        self.good([fn("f", [BACK])])
        self.good([fn("f", [BACK, BACK])])
        self.good([("f", True, ("a", "b", "c", "d", "e", "g"), (BACK,))])
        self.good([fn("f", [IF, COPY, ELSE, COPY, END, BACK]), fn("g", [WHILE, IF, END, END, BACK])])
        self.good([fn("f", [IF, ELSE, IF, ELSE, END, END, BACK])])
        self.good([fn("f", [BACK, COPY, BACK])])
        self.good([fn(name, [BACK]) for name in "abcdefghijkl"])

    def test_names_of_functions_params_and_names_may_be_alike(self):
        self.good([fn("a", [("copy", "a", "a"), ("put", "a", "a", "a"), BACK], ["a"]), fn("b", [BACK], ["a", "b"])])

    def test_no_function(self):
        self.refused([], NoFunction)

    def test_functions_called_alike(self):
        self.refused([fn("f", [BACK]), fn("f", [BACK])], TwiceNamed, word="f")
        self.refused([fn("f", [BACK]), fn("g", [BACK]), ("f", True, ("a",), (BACK,))], TwiceNamed, word="f")
        self.refused([fn(name, [BACK]) for name in ("a", "b", "c", "c", "a")], TwiceNamed, word="c")
        self.refused([fn(name, [BACK]) for name in ("a", "b", "b", "a", "a")], TwiceNamed, word="b")

    def test_params_alike(self):
        self.refused([fn("f", [BACK], ["a", "a"])], TwiceNamed, word="a")
        self.refused([fn("f", [BACK], ["a", "b", "b", "a"])], TwiceNamed, word="b")
        self.refused([fn("f", [BACK], ["a", "b", "c", "d", "e", "a"])], TwiceNamed, word="a")
        self.refused([fn("f", [BACK], ["a"]), fn("g", [BACK], ["c", "c"])], TwiceNamed, word="c")

    def test_nests(self):
        for rows, at in [
            ([], 0), ([COPY], 1), ([BACK, COPY], 2), ([END], 0), ([ELSE], 0), ([COPY, END, BACK], 1),
            ([COPY, ELSE, BACK], 1), ([IF, BACK], 2), ([WHILE, COPY, BACK], 3), ([IF, END, END, BACK], 2),
            ([WHILE, END, END, BACK], 2), ([IF, ELSE, ELSE, END, BACK], 2), ([WHILE, ELSE, END, BACK], 1),
            ([IF, WHILE, ELSE, END, END, BACK], 2), ([IF, END, ELSE, BACK], 2), ([IF, ELSE, BACK], 3),
            ([IF, IF, ELSE, END, ELSE, ELSE, END, BACK], 5), ([IF, BACK, END], 3), ([WHILE, BACK, END], 3),
            ([IF, ELSE, WHILE, ELSE, END, END, BACK], 3), ([IF, END, COPY], 3), ([WHILE, IF, END, BACK], 4),
            ([ELSE, END, IF], 0), ([IF] * 59 + [BACK], 60), ([IF, BACK, ELSE, BACK, END], 5),
        ]:
            self.assertEqual(bad_nest(rows), at, rows)
            self.refused([fn("f", rows)], BadNest, function="f", at=at)
            self.refused([fn("e", [BACK]), ("fold", True, (), tuple(rows)), fn("g", [])], BadNest,
                         function="fold", at=at)

    def test_every_short_list_of_rows(self):
        told = {}
        for length in range(7):
            for rows in itertools.product((COPY, IF, WHILE, ELSE, END, BACK), repeat=length):
                at = bad_nest(rows)
                told[at] = told.get(at, 0) + 1
                try:
                    self.assertIs(look([fn("f", rows)]), True)
                    self.assertIsNone(at, rows)
                except BadNest as error:
                    self.assertEqual((error.function, error.at), ("f", at), rows)
        self.assertEqual(sorted(told, key=str), [0, 1, 2, 3, 4, 5, 6, None])

    def test_calls(self):
        two = fn("two", [BACK], ["a", "b"])
        self.good([two, fn("f", [call("two", 1, "x"), BACK])])
        self.good([fn("f", [call("two", 1, 2), BACK]), two])
        self.good([fn("f", [call("f", 1), BACK], ["a"])])
        self.good([fn("f", [call("g"), BACK]), fn("g", [call("f"), call("g"), BACK])])
        self.refused([fn("f", [call("g"), BACK])], BadCall, function="f", at=0)
        self.refused([two, fn("f", [COPY, call("two", 1), BACK])], BadCall, function="f", at=1)
        self.refused([two, fn("f", [COPY, COPY, call("two", 1, 2, 3), BACK])], BadCall, function="f", at=2)
        self.refused([two, fn("f", [call("two"), BACK])], BadCall, function="f", at=0)
        self.refused([fn("f", [call("f"), BACK], ["a"])], BadCall, function="f", at=0)
        self.refused([fn("f", [call("f", 1), BACK])], BadCall, function="f", at=0)
        self.refused([fn("f", [call("g", 1), BACK]), fn("g", [BACK])], BadCall, function="f", at=0)
        self.refused([fn("f", [BACK]), fn("g", [call("f"), call("h"), call("f", 1), BACK])], BadCall,
                     function="g", at=1)
        self.refused([fn("f", [BACK]), fn("g", [IF, call("f"), ELSE, call("f", 1), END, BACK])], BadCall,
                     function="g", at=3)

    def test_the_one_due_first_is_told(self):
        bad_call = [call("nowhere"), BACK]
        self.refused([fn("f", [], ["a", "a"]), fn("f", [], ["b", "b"])], TwiceNamed, word="f")
        self.refused([fn("f", bad_call), fn("g", [BACK]), fn("g", [BACK])], TwiceNamed, word="g")
        self.refused([fn("f", [END], ["a", "a"])], TwiceNamed, word="a")
        self.refused([fn("f", bad_call, ["a", "a"])], TwiceNamed, word="a")
        self.refused([fn("f", bad_call + [END])], BadNest, function="f", at=2)
        self.refused([fn("f", bad_call + [COPY])], BadNest, function="f", at=3)
        self.refused([fn("f", [call("nowhere"), ELSE, END, BACK])], BadNest, function="f", at=1)
        self.refused([fn("f", bad_call), fn("g", [BACK], ["a", "a"])], BadCall, function="f", at=0)
        self.refused([fn("f", bad_call), fn("g", [])], BadCall, function="f", at=0)
        self.refused([fn("f", [COPY]), fn("g", [BACK], ["a", "a"])], BadNest, function="f", at=1)
        self.refused([fn("f", [BACK]), fn("g", [], ["a", "a"]), fn("h", [])], TwiceNamed, word="a")
        self.refused([fn("f", [BACK]), fn("g", []), fn("h", [BACK], ["a", "a"])], BadNest, function="g", at=0)

    def test_programs_made_up(self):
        rng = random.Random(3)
        for _ in range(300):
            self.good(some_program(rng, most=5, depth=3))

    def test_asked_twice(self):
        program = [fn("f", [BACK])]
        self.good(program)
        program.append(fn("f", [BACK]))
        self.refused(program, TwiceNamed, word="f")
        program.pop()
        self.good(program)


if __name__ == "__main__":
    unittest.main()
