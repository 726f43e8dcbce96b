"""Chains that fit their program, and the begin of a function's code."""

import itertools
import unittest

from stopglass.fits import begin_holds, chain_fits
from stopglass.texts import read

from tests.helper import Unchanged

# main: 0 if, 1 call, 2 else, 3 copy, 4 end, 5 call, 6 while, 7 end, 8 back.
PROGRAM = read("in leaf a\nb = a + 1\nback b\nin mid a b\nc = call leaf a\nd = call mid c b\nback d\n"
               "fn main x y\nif x\nz = call mid x y\nelse\nz = 4\nend\nw = call leaf z\nwhile z\nend\nback w\n"
               "fn later\nback 0")


def box(k):
    return ("box", k)


def num(v):
    return ("num", v)


class ChainFitsTest(unittest.TestCase):
    def fits(self, name, chain, expected):
        with Unchanged(self, PROGRAM, chain):
            self.assertIs(chain_fits(PROGRAM, name, chain), expected, (name, chain))

    def test_one_frame(self):
        for row in (0, 1, 3, 5, 6, 8):
            self.fits("main", (("main", row),), True)
        self.fits("leaf", (("leaf", 1),), True)
        self.fits("later", (("later", 0),), True)

    def test_the_empty_chain(self):
        for name in ("leaf", "mid", "main", "later", "nowhere"):
            self.fits(name, (), False)

    def test_another_first_function(self):
        self.fits("main", (("leaf", 0),), False)
        self.fits("leaf", (("main", 5), ("leaf", 0)), False)
        self.fits("mid", (("main", 1), ("mid", 0)), False)
        self.fits("main", (("mid", 0), ("leaf", 0)), False)

    def test_functions_that_are_not_there(self):
        self.fits("nowhere", (("nowhere", 0),), False)
        self.fits("main", (("nowhere", 0),), False)
        self.fits("main", (("main", 5), ("nowhere", 0)), False)
        self.fits("main", (("main", 1), ("mid", 0), ("nowhere", 0)), False)
        self.fits("main", (("main", 1), ("nowhere", 0), ("leaf", 0)), False)

    def test_rows_that_are_not_there(self):
        for row in (-1, -2, -4, -8, -9, -10, 9, 10, 60, 1000, -(2 ** 60)):
            self.fits("main", (("main", row),), False)
            self.fits("main", (("main", row), ("leaf", 0)), False)
            self.fits("main", (("main", row), ("mid", 0)), False)
        for row in (-1, -2, 2, 3):
            self.fits("leaf", (("leaf", row),), False)
            self.fits("main", (("main", 5), ("leaf", row)), False)
            self.fits("main", (("main", 1), ("mid", 0), ("leaf", row)), False)
        for row in (-2, -3, 3):
            self.fits("main", (("main", 1), ("mid", row), ("leaf", 0)), False)

    def test_else_and_end_rows(self):
        for row in (2, 4, 7):
            self.fits("main", (("main", row),), False)

    def test_frames_that_stand_at_no_call(self):
        for row in (0, 3, 6, 8):
            for inner in ("leaf", "mid", "main"):
                self.fits("main", (("main", row), (inner, 0)), False)
        self.fits("main", (("main", 1), ("mid", 2), ("leaf", 0)), False)
        self.fits("leaf", (("leaf", 0), ("leaf", 0)), False)

    def test_frames_that_stand_at_a_call_of_another_function(self):
        self.fits("main", (("main", 1), ("leaf", 0)), False)
        self.fits("main", (("main", 5), ("mid", 0)), False)
        self.fits("main", (("main", 5), ("main", 0)), False)
        self.fits("main", (("main", 1), ("mid", 0), ("mid", 0)), False)
        self.fits("main", (("main", 1), ("mid", 1), ("leaf", 0)), False)

    def test_good_chains(self):
        self.fits("main", (("main", 1), ("mid", 2)), True)
        self.fits("main", (("main", 5), ("leaf", 1)), True)
        self.fits("main", (("main", 1), ("mid", 0), ("leaf", 0)), True)
        self.fits("main", (("main", 1), ("mid", 1), ("mid", 1)), True)
        self.fits("mid", (("mid", 1), ("mid", 1), ("mid", 0)), True)
        self.fits("mid", (("mid", 1), ("mid", 0), ("leaf", 1)), True)

    def test_four_frames(self):
        self.fits("main", (("main", 1), ("mid", 1), ("mid", 0), ("leaf", 1)), True)
        self.fits("main", (("main", 1), ("mid", 1), ("mid", 0), ("mid", 1)), False)

    def test_all_short_chains(self):
        functions = {function[0]: function for function in PROGRAM}
        places = [(name, row) for name in ("leaf", "mid", "main", "nowhere") for row in range(-1, 10)]
        for length in (1, 2):
            for chain in itertools.product(places, repeat=length):
                good = all(name in functions and 0 <= row < len(functions[name][3])
                           and functions[name][3][row] not in (("else",), ("end",)) for name, row in chain)
                if good and length == 2:
                    row = functions[chain[0][0]][3][chain[0][1]]
                    good = row[0] == "call" and row[2] == chain[1][0]
                for name in ("leaf", "mid", "main", "nowhere"):
                    self.assertIs(chain_fits(PROGRAM, name, chain), good and chain[0][0] == name)


class BeginHoldsTest(unittest.TestCase):
    BEGIN = (("main", 0),)
    GOOD = [box(0), box(1), num(0), num(0)]

    def begin(self, places, expected, chain=BEGIN, act=("go", 0), sets=()):
        spots, marks = [(list(sets), act), ([], ("go", 0))], [(chain, [list(places)]), (self.BEGIN, [self.GOOD])]
        with Unchanged(self, PROGRAM, spots, marks):
            self.assertIs(begin_holds(PROGRAM, "main", spots, marks), expected, places)

    def test_good(self):
        self.begin(self.GOOD, True)
        self.begin([None] * 4, True)
        self.begin([box(0), None, num(0), None], True)

    def test_the_sets_are_not_asked(self):
        self.begin(self.GOOD, True, sets=[(0, num(5)), (1, box(0))])

    def test_a_wait_spot(self):
        self.begin(self.GOOD, False, act=("wait", None, 0))
        self.begin([None] * 4, False, act=("wait", 0, 1))
        for act in (("if", box(0), 0, 1), ("out", num(0), 0), ("back", num(0)), ("call", "leaf", (box(0),), 1)):
            self.begin(self.GOOD, True, act=act)

    def test_another_chain(self):
        for row in (1, 3, 5, 6, 8):
            self.begin(self.GOOD, False, (("main", row),))
        spots = [([], ("go", 0))]
        longer = [((("mid", 1), ("mid", 0)), [[None] * 4, [None] * 4])]
        self.assertIs(begin_holds(PROGRAM, "mid", spots, longer), False)
        self.assertIs(begin_holds(PROGRAM, "mid", spots, [((("mid", 0),), [[None] * 4])]), True)
        self.assertIs(begin_holds(PROGRAM, "mid", spots, [((("mid", 0), ("leaf", 0)), [[None] * 4, [None] * 2])]), False)

    def test_a_params_place(self):
        for place in (box(1), box(2), box(127), num(0), num(7), ("+", box(0), num(0)), ("+", box(2), box(0)),
                      ("&", box(0), box(0))):
            self.begin([place] + self.GOOD[1:], False)
        for place in (box(0), box(2), num(0), ("+", box(1), num(0)), ("-", box(1), box(2))):
            self.begin([box(0), place] + self.GOOD[2:], False)
        self.begin([box(1), box(0), num(0), num(0)], False)
        self.begin([None] + self.GOOD[1:], True)

    def test_a_name_that_is_no_param(self):
        for place in (num(0), box(2), box(3), box(127), box(130), ("+", num(0), num(0)), ("-", num(3), num(3)),
                      ("*", box(2), num(9)), ("/", num(9), box(2)), ("<", num(9), ("+", box(4), num(2))), None):
            self.begin(self.GOOD[:2] + [place, num(0)], True)
            self.begin(self.GOOD[:2] + [num(0), place], True)
        for place in (num(1), box(0), box(1), ("*", box(0), num(0)), ("-", box(1), box(1)), ("+", box(2), num(1)),
                      ("*", box(0), box(2)), ("=", box(2), box(3))):
            self.begin(self.GOOD[:2] + [place, num(0)], False)
            self.begin(self.GOOD[:2] + [num(0), place], False)

    def test_boxes_below_the_number_of_params_are_themselves(self):
        for name, count in (("leaf", 1), ("mid", 2), ("later", 0)):
            function = [one for one in PROGRAM if one[0] == name][0]
            others = {"leaf": 1, "mid": 2, "later": 0}[name]
            spots = [([], ("go", 0))]
            good = [box(k) for k in range(count)] + [box(count + k) for k in range(others)]
            self.assertEqual(len(function[2]), count)
            self.assertIs(begin_holds(PROGRAM, name, spots, [(((name, 0),), [good])]), True)
            for k in range(others):
                bad = list(good)
                bad[count + k] = box(count - 1)
                self.assertIs(begin_holds(PROGRAM, name, spots, [(((name, 0),), [bad])]), False)


if __name__ == "__main__":
    unittest.main()
