"""What a step, an arrival and a wait spot ask, spot by spot."""

import unittest

from stopglass.holds import spot_holds
from stopglass.texts import read

from tests.helper import SIGNS, Unchanged, sign_value


def box(k):
    return ("box", k)


def num(v):
    return ("num", v)


def bare(row, ending="back a"):
    """A function of a to c, of which this is row 0."""
    return read("fn g p q\nr = p\nback r\nfn f a b c\n" + row + "\nd = 0\n" + ending)


class SpotsTest(unittest.TestCase):
    """At spot 0 a, b and c are in boxes 0 to 2, d is gone; spot 1 is behind it, and so are 2 and on if told."""

    AHEAD = [box(0), box(1), box(2), None]

    def asked(self, program, spots, marks, expected, k=0):
        with Unchanged(self, program, spots, marks):
            told = spot_holds(program, spots, marks, k)
        self.assertIs(told, expected, (spots[k], marks))

    def row(self, text, sets, act, behind, expected, ahead=None, chain=(("f", 0),), to=(("f", 1),), then=("go", 0)):
        spots = [(list(sets), act), ([], then)]
        marks = [(chain, [list(ahead or self.AHEAD)]), (to, [list(behind)])]
        self.asked(bare(text), spots, marks, expected)


ACTS = {
    "go": ("go", 1),
    "if": ("if", box(0), 1, 1),
    "out": ("out", box(0), 1),
    "put": ("put", box(0), "f", box(1), 1),
    "get": ("get", box(0), "f", 3, 1),
    "new": ("new", 3, 1),
    "call": ("call", "g", (box(0), box(1)), 1),
    "back": ("back", box(0)),
}


class KindsTest(SpotsTest):
    def test_each_kind_of_row_with_each_act(self):
        for text, good in (("c = a", ("go",)), ("c = a + b", ("go",)), ("c = new", ("new",)),
                           ("c = get a f", ("get", "go")), ("put a f b", ("put",)), ("out a", ("out",)),
                           ("back a", ("back",))):
            for kind, act in ACTS.items():
                self.row(text, [], act, [None] * 4, kind in good)
                self.row(text, [], act, [box(0), box(1), None, None], kind in good)

    def test_if_and_while_with_each_act(self):
        for text in ("if a", "while a"):
            program = read("fn g p q\nr = p\nback r\nfn f a b c\n" + text + "\nout c\nend\nout b\nback a")
            for kind, act in ACTS.items():
                act = ("if", box(0), 1, 2) if kind == "if" else act
                marks = [((("f", row),), [[box(0), box(1), box(2)]]) for row in (0, 1, 3)]
                self.asked(program, [([], act), ([], ("go", 0)), ([], ("go", 0))], marks, kind == "if")

    def test_a_call_with_each_act(self):
        program = bare("c = call g a b")
        for kind, act in ACTS.items():
            waiting = [([], act), ([], ("wait", 2, 0))]
            marks = [((("f", 0),), [self.AHEAD])] * 2
            self.asked(program, waiting, marks, kind == "call")
            inside = [((("f", 0),), [self.AHEAD]), ((("f", 0), ("g", 0)), [self.AHEAD, [box(0), box(1), num(0)]])]
            self.asked(program, [([], act), ([], ("go", 0))], inside, kind == "go")

    def test_a_back_into_a_chain_with_each_act(self):
        program = bare("c = call g a b")
        marks = [((("f", 0), ("g", 1)), [[box(0), box(1), box(2), None], [box(0), box(1), box(5)]]),
                 ((("f", 1),), [[box(0), box(1), box(5), None]])]
        for kind, act in dict(ACTS, back=("back", box(5))).items():
            self.asked(program, [([], act), ([], ("go", 0))], marks, kind == "go")


class ArrivalTest(SpotsTest):
    def test_each_name_is_gone_or_what_it_was(self):
        good = [box(0), box(1), box(0), None]
        self.row("c = a", [], ("go", 1), good, True)
        for k in range(4):
            for place in (None, box(k), box(3), num(0), num(1), box(0), ("+", box(0), num(0))):
                places = good[:k] + [place] + good[k + 1:]
                self.row("c = a", [], ("go", 1), places, place is None or place == good[k])

    def test_what_was_gone_is_unknown(self):
        for place in (box(3), num(0), box(0)):
            self.row("c = a", [], ("go", 1), [box(0), box(1), box(0), place], False)
        self.row("c = d", [], ("go", 1), [box(0), box(1), None, None], True)
        for place in (box(2), box(3), num(0)):
            self.row("c = d", [], ("go", 1), [box(0), box(1), place, None], False)
        for text in ("c = d + a", "c = a + d", "c = d + d", "c = d + 1", "c = 1 + d"):
            self.row(text, [], ("go", 1), [box(0), box(1), None, None], True)
            self.row(text, [], ("go", 1), [box(0), box(1), box(2), None], False)
            self.row(text, [], ("go", 1), [box(0), box(1), ("+", box(0), num(1)), None], False)

    def test_another_chain(self):
        for to in ((("f", 0),), (("f", 2),), (("g", 1),), (("f", 1), ("g", 0))):
            views = [[None] * (3 if function == "g" else 4) for function, _ in to]
            spots = [([], ("go", 1)), ([], ("go", 0))]
            self.asked(bare("c = a"), spots, [((("f", 0),), [self.AHEAD]), (to, views)], False)

    def test_a_wait_spot(self):
        program = bare("c = a").copy()
        program[-1] = program[-1][:3] + ((("copy", "c", "a"), ("call", "d", "g", ("a", "b")), ("back", "a")),)
        marks = [((("f", 0),), [self.AHEAD]), ((("f", 1),), [[None] * 4])]
        self.asked(program, [([], ("go", 1)), ([], ("wait", None, 0))], marks, False)
        self.asked(program, [([], ("go", 1)), ([], ("call", "g", (), 0))], marks, True)
        self.asked(program, [([], ("go", 1)), ([], ("go", 0))], marks, True)

    def test_sets_put_a_name_into_a_box(self):
        self.row("c = a", [(2, box(0))], ("go", 1), [box(0), box(1), box(2), None], True)
        self.row("c = a", [(9, box(0))], ("go", 1), [box(9), box(1), box(0), None], True)
        self.row("c = a + b", [(2, ("+", box(0), box(1)))], ("go", 1), [box(0), box(1), box(2), None], True)
        self.row("c = a + b", [(2, ("+", box(1), box(0)))], ("go", 1), [box(0), box(1), box(2), None], False)
        self.row("c = a + b", [(2, ("-", box(0), box(1)))], ("go", 1), [box(0), box(1), box(2), None], False)
        self.row("c = a", [(2, box(1))], ("go", 1), [box(0), box(1), box(2), None], False)

    def test_a_place_that_hangs_on_a_box_that_the_sets_write(self):
        self.row("c = a", [(0, num(7))], ("go", 1), [box(0), box(1), None, None], False)
        self.row("c = a", [(0, num(7))], ("go", 1), [None, box(1), box(0), None], False)
        self.row("c = a + 1", [(0, num(7))], ("go", 1), [None, box(1), ("+", box(0), num(1)), None], False)
        self.row("c = a", [(0, num(7))], ("go", 1), [None, box(1), None, None], True)
        self.row("c = a", [(0, box(1)), (1, box(0))], ("go", 1), [box(1), box(0), box(1), None], True)
        self.row("c = a", [(0, box(1)), (1, box(0))], ("go", 1), [box(0), box(1), box(0), None], False)
        self.row("a = a + 1", [(0, ("+", box(0), num(1)))], ("go", 1), [box(0), box(1), box(2), None], True)
        self.row("a = a + 1", [(0, ("+", box(0), num(1)))], ("go", 1),
                 [("+", box(0), num(1)), box(1), box(2), None], False)
        self.row("c = a", [(0, box(0))], ("go", 1), [box(0), box(1), box(0), None], True)

    def test_places_put_together_again(self):
        self.row("c = a", [(7, num(3))], ("go", 1), [num(5), box(1), ("+", box(7), num(2)), None], True,
                 ahead=[num(5), box(1), box(2), None])
        self.row("c = a", [(7, num(3))], ("go", 1), [num(5), box(1), ("+", box(8), num(2)), None], False,
                 ahead=[num(5), box(1), box(2), None])

    def test_a_place_ahead_is_taken_as_it_stands(self):
        apart = ("+", num(1), num(2))
        ahead = [apart, box(1), box(2), None]
        self.row("c = b", [], ("go", 1), [apart, box(1), box(1), None], False, ahead=ahead)
        self.row("c = b", [], ("go", 1), [num(3), box(1), box(1), None], False, ahead=ahead)
        self.row("c = b", [], ("go", 1), [None, box(1), box(1), None], True, ahead=ahead)
        self.row("c = a", [(2, apart)], ("go", 1), [box(2), box(1), box(2), None], True, ahead=ahead)
        self.row("c = a", [(2, num(3))], ("go", 1), [None, box(1), box(2), None], False, ahead=ahead)
        self.row("c = a * 2", [(2, ("*", apart, num(2)))], ("go", 1), [None, box(1), box(2), None], True, ahead=ahead)
        self.row("c = a * 2", [(2, num(6))], ("go", 1), [None, box(1), box(2), None], False, ahead=ahead)
        self.row("out a", [], ("out", apart, 1), [None] * 4, True, ahead=ahead)
        self.row("out a", [], ("out", num(3), 1), [None] * 4, False, ahead=ahead)


class CopyAndOpTest(SpotsTest):
    def test_copy(self):
        self.row("c = a", [], ("go", 1), [box(0), box(1), box(0), None], True)
        self.row("c = 7", [], ("go", 1), [box(0), box(1), num(7), None], True)
        self.row("c = 7", [], ("go", 1), [box(0), box(1), num(8), None], False)
        self.row("c = 7", [(5, num(7))], ("go", 1), [box(0), box(1), box(5), None], True)
        self.row("a = a", [], ("go", 1), [box(0), box(1), box(2), None], True)
        self.row("a = b", [], ("go", 1), [box(1), box(1), box(2), None], True)
        self.row("a = b", [], ("go", 1), [box(0), box(1), box(2), None], False)
        self.row("d = a", [], ("go", 1), [box(0), box(1), box(2), box(0)], True)

    def test_op(self):
        for sign in SIGNS:
            good = [box(0), box(1), (sign, box(0), box(1)), None]
            self.row(f"c = a {sign} b", [], ("go", 1), good, True)
            self.row(f"c = b {sign} a", [], ("go", 1), good, False)
            self.row(f"c = a {sign} a", [], ("go", 1), good, False)
            self.row(f"c = a {sign} 7", [], ("go", 1), good[:2] + [(sign, box(0), num(7)), None], True)
            told = num(sign_value(sign, 9, 7))
            self.row(f"c = 9 {sign} 7", [], ("go", 1), good[:2] + [told, None], True)
            self.row(f"c = 9 {sign} 7", [(4, told)], ("go", 1), good[:2] + [box(4), None], True)
            # What is asked for is put together, and so is a place: written apart it is the same.
            self.row(f"c = 9 {sign} 7", [], ("go", 1), good[:2] + [(sign, num(9), num(7)), None], True)
            self.row(f"c = 9 {sign} 7", [(4, (sign, num(9), num(7)))], ("go", 1), good[:2] + [box(4), None], False)
            for other in SIGNS:
                if other != sign:
                    self.row(f"c = a {other} b", [], ("go", 1), good, False)

    def test_op_of_places(self):
        ahead = [("*", box(0), num(2)), num(4), num(6), None]
        self.row("d = a - b", [], ("go", 1), ahead[:3] + [("-", ahead[0], num(4))], True, ahead=ahead)
        self.row("d = c - b", [], ("go", 1), ahead[:3] + [num(2)], True, ahead=ahead)
        self.row("d = a - d", [], ("go", 1), ahead[:3] + [None], True, ahead=ahead)


class GetAndNewTest(SpotsTest):
    BEHIND = [box(0), box(1), box(2), None]

    def test_get_fills_a_box(self):
        self.row("c = get a f", [], ("get", box(0), "f", 2, 1), self.BEHIND, True)
        self.row("c = get a f", [], ("get", box(0), "f", 9, 1), [box(0), box(1), box(9), None], True)
        self.row("c = get a f", [], ("get", box(0), "f", 9, 1), self.BEHIND, False)
        self.row("c = get a f", [], ("get", box(0), "f", 1, 1), self.BEHIND, False)
        self.row("c = get a f", [], ("get", box(0), "f", 1, 1), [box(0), None, box(1), None], True)
        self.row("c = get a f", [], ("get", box(0), "f", 1, 1), [box(0), box(1), box(1), None], False)
        self.row("c = get a f", [], ("get", box(0), "f", 9, 1), [box(0), box(1), ("+", box(9), num(0)), None], False)
        self.row("c = get a f", [], ("get", box(0), "f", 9, 1), [box(0), box(9), None, None], False)
        self.row("a = get a f", [], ("get", box(0), "f", 0, 1), [box(0), box(1), box(2), None], True)
        self.row("d = get 7 f", [], ("get", num(7), "f", 3, 1), [box(0), box(1), box(2), box(3)], True)

    def test_a_get_that_is_not_the_rows(self):
        for act in (("get", box(1), "f", 2, 1), ("get", num(0), "f", 2, 1), ("get", box(0), "g", 2, 1),
                    ("get", ("+", box(0), num(0)), "f", 2, 1), ("get", box(0), "c", 2, 1)):
            self.row("c = get a f", [], act, self.BEHIND, False)
            self.row("c = get a f", [], act, [None] * 4, False)

    def test_get_of_a_gone_name(self):
        for one in (box(3), box(0), num(0)):
            self.row("c = get d f", [], ("get", one, "f", 2, 1), [None] * 4, False)
        self.row("c = get d f", [], ("go", 1), [box(0), box(1), None, None], True)

    def test_get_by_a_go(self):
        self.row("c = get a f", [], ("go", 1), [box(0), box(1), None, None], True)
        for place in (box(2), box(0), num(0), box(9)):
            self.row("c = get a f", [], ("go", 1), [box(0), box(1), place, None], False)

    def test_get_with_none(self):
        self.row("c = get a f", [], ("get", box(0), "f", None, 1), [box(0), box(1), None, None], True)
        for place in (box(2), box(0), num(0), box(9)):
            self.row("c = get a f", [], ("get", box(0), "f", None, 1), [box(0), box(1), place, None], False)

    def test_new(self):
        self.row("c = new", [], ("new", 2, 1), self.BEHIND, True)
        self.row("c = new", [], ("new", 9, 1), [box(0), box(1), box(9), None], True)
        self.row("c = new", [], ("new", 9, 1), self.BEHIND, False)
        self.row("c = new", [], ("new", 0, 1), [box(0), box(1), None, None], False)
        self.row("c = new", [], ("new", 0, 1), [None, box(1), box(0), None], True)
        self.row("c = new", [], ("new", None, 1), [box(0), box(1), None, None], True)
        for place in (box(2), num(1), num(0), box(0)):
            self.row("c = new", [], ("new", None, 1), [box(0), box(1), place, None], False)
        self.row("c = new", [], ("go", 1), [None] * 4, False)

    def test_a_box_that_is_set_and_filled(self):
        for text, act in (("c = new", ("new", 2, 1)), ("c = get a f", ("get", box(0), "f", 2, 1))):
            self.row(text, [(2, box(0))], act, self.BEHIND, True)
            self.row(text, [(2, box(0))], act, [box(2), box(1), None, None], False)
            self.row(text, [(5, box(2))], act, [box(0), box(1), box(2), None], True)
            self.row(text, [(5, box(1))], act, [box(0), box(5), box(2), None], True)

    def test_the_sign_equals_only_itself(self):
        for text, act in (("c = new", ("new", 9, 1)), ("c = get a f", ("get", box(0), "f", 9, 1))):
            ahead = [box(9), box(1), box(2), ("+", box(9), num(1))]
            self.row(text, [], act if text == "c = new" else ("get", box(9), "f", 9, 1),
                     [None, box(1), box(9), None], True, ahead=ahead)
            act = act if text == "c = new" else ("get", box(9), "f", 9, 1)
            self.row(text, [], act, [box(9), box(1), box(9), None], False, ahead=ahead)
            self.row(text, [], act, [None, box(1), box(9), ("+", box(9), num(1))], False, ahead=ahead)
            self.row(text, [(4, box(9))], act, [box(4), box(1), box(9), ("+", box(4), num(1))], True, ahead=ahead)


class PutOutIfTest(SpotsTest):
    def test_put(self):
        behind = [box(0), box(1), box(2), None]
        self.row("put a f b", [], ("put", box(0), "f", box(1), 1), behind, True)
        self.row("put 7 f 8", [], ("put", num(7), "f", num(8), 1), behind, True)
        for act in (("put", box(1), "f", box(1), 1), ("put", box(0), "g", box(1), 1), ("put", box(0), "f", box(0), 1),
                    ("put", num(0), "f", box(1), 1), ("put", box(0), "f", num(1), 1)):
            self.row("put a f b", [], act, behind, False)
        for one in (box(3), box(0), num(0)):
            self.row("put d f b", [], ("put", one, "f", box(1), 1), behind, False)
            self.row("put a f d", [], ("put", box(0), "f", one, 1), behind, False)
        self.row("put a f b", [], ("put", box(0), "f", box(1), 1), [box(0), box(0), box(2), None], False)

    def test_an_acts_reckonings_are_of_the_boxes_ahead(self):
        self.row("put a f b", [(0, num(5))], ("put", box(0), "f", box(1), 1), [None, box(1), box(2), None], True)
        self.row("out a", [(0, num(5)), (9, box(0))], ("out", box(0), 1), [box(9), box(1), box(2), None], True)
        self.row("out a", [(0, num(5)), (9, box(0))], ("out", box(9), 1), [box(9), box(1), box(2), None], False)

    def test_out(self):
        behind = [box(0), box(1), box(2), None]
        self.row("out a", [], ("out", box(0), 1), behind, True)
        self.row("out 7", [], ("out", num(7), 1), behind, True)
        for one in (box(1), num(0), ("+", box(0), num(0))):
            self.row("out a", [], ("out", one, 1), behind, False)
        for one in (box(3), num(0)):
            self.row("out d", [], ("out", one, 1), behind, False)
        self.row("out 7", [], ("out", num(8), 1), behind, False)

    def test_if_and_while(self):
        names, chains = [box(0), box(1), box(2)], [(("f", 0),), (("f", 1),), (("f", 3),)]
        for text in ("if a", "while a"):
            program = read("fn f a b c\n" + text + "\nout c\nend\nout b\nback a")
            marks = [(chain, [names]) for chain in chains]

            def asked(act, expected, marks=marks, sets=(), then=("go", 0)):
                self.asked(program, [(list(sets), act), ([], then), ([], ("go", 0))], marks, expected)

            asked(("if", box(0), 1, 2), True)
            asked(("if", box(0), 2, 1), False)
            asked(("if", box(0), 1, 1), False)
            asked(("if", box(0), 2, 2), False)
            asked(("if", box(1), 1, 2), False)
            asked(("if", ("+", box(0), num(0)), 1, 2), False)
            asked(("if", box(0), 1, 2), False, sets=[(0, num(1))])
            for k in (1, 2):
                other = list(marks)
                other[k] = (chains[k], [[box(0), box(2), box(2)]])
                asked(("if", box(0), 1, 2), False, other)
                other[k] = (chains[k], [[None, box(1), None]])
                asked(("if", box(0), 1, 2), True, other)
                asked(("if", box(0), 1, 2), False, other, [(0, num(1))])
            both = [marks[0]] + [(chain, [[None, box(1), None]]) for chain in chains[1:]]
            asked(("if", box(0), 1, 2), True, both, [(0, num(1))])
            gone = [(chain, [[None, None, None]]) for chain in chains]
            asked(("if", box(0), 1, 2), False, gone)

    def test_an_arrival_of_an_if_at_a_wait_spot(self):
        program = read("fn g\nback 0\nfn f a\nif a\na = call g\nelse\na = call g\nend\nback a")
        marks = [((("f", row),), [[None]]) for row in (0, 1, 3)]
        marks[0] = ((("f", 0),), [[box(0)]])
        go, wait = ([], ("go", 0)), ([], ("wait", None, 0))
        for one, other, expected in ((go, go, True), (wait, go, False), (go, wait, False), (wait, wait, False)):
            self.asked(program, [([], ("if", box(0), 1, 2)), one, other], marks, expected)

    def test_if_without_a_body(self):
        program = read("fn f a\nif a\nelse\nend\nback a")
        marks = [((("f", 0),), [[box(0)]]), ((("f", 3),), [[None]]), ((("f", 3),), [[box(0)]])]
        program = [("f", False, ("a",), (("if", "a"), ("else",), ("end",), ("back", "a")))]
        for yes, no in ((1, 2), (2, 1), (1, 1), (2, 2)):
            self.asked(program, [([], ("if", box(0), yes, no)), ([], ("go", 0)), ([], ("go", 0))], marks, True)
        self.asked(program, [([], ("if", box(0), 0, 2)), ([], ("go", 0)), ([], ("go", 0))], marks, False)

    def test_the_condition_may_be_a_number(self):
        program = read("fn f a\nwhile 1\nend\nback a")
        marks = [((("f", 0),), [[box(0)]]), ((("f", 2),), [[box(0)]])]
        self.asked(program, [([], ("if", num(1), 0, 1)), ([], ("go", 0))], marks, True)
        self.asked(program, [([], ("if", num(2), 0, 1)), ([], ("go", 0))], marks, False)
        self.asked(program, [([], ("if", box(0), 0, 1)), ([], ("go", 0))], marks, False)


class CallTest(SpotsTest):
    PROGRAM = bare("c = call g a b")

    def call(self, act, expected, sets=(), ahead=None, waiting=None, then=("wait", 2, 0), chain=(("f", 0),)):
        ahead = self.AHEAD if ahead is None else ahead
        marks = [((("f", 0),), [list(ahead)]), (chain, [list(ahead if waiting is None else waiting)])]
        self.asked(self.PROGRAM, [(list(sets), act), ([], then)], marks, expected)

    def test_by_a_call(self):
        good = ("call", "g", (box(0), box(1)), 1)
        self.call(good, True)
        self.call(good, True, waiting=[None] * 4)
        self.call(good, True, waiting=[None, box(1), box(2), None])
        self.call(good, False, then=("go", 0))
        self.call(good, False, then=("call", "g", (box(0), box(1)), 1))
        self.call(good, False, chain=(("f", 1),))
        self.call(good, False, waiting=[box(0), box(1), box(2), box(3)])
        self.call(good, False, waiting=[box(0), box(0), box(2), None])

    def test_the_x_of_a_call_is_as_ahead_at_the_wait(self):
        good = ("call", "g", (box(0), box(1)), 1)
        self.call(good, False, waiting=[box(0), box(1), num(0), None])
        self.call(good, True, waiting=[box(0), box(1), None, None])
        self.call(good, False, ahead=[box(0), box(1), None, None], waiting=[box(0), box(1), box(2), None])

    def test_sets_of_a_call(self):
        good = ("call", "g", (box(0), box(1)), 1)
        self.call(good, True, [(8, box(0)), (0, num(7))], waiting=[box(8), box(1), box(2), None])
        self.call(good, False, [(8, box(0)), (0, num(7))])
        self.call(good, True, [(0, box(1)), (1, box(0))], waiting=[box(1), box(0), box(2), None])
        self.call(good, True, [(9, num(7))])

    def test_a_call_that_is_not_the_rows(self):
        for act in (("call", "f", (box(0), box(1)), 1), ("call", "h", (box(0), box(1)), 1), ("call", "g", (box(0),), 1),
                    ("call", "g", (), 1), ("call", "g", (box(0), box(1), box(2)), 1), ("call", "g", (box(1), box(0)), 1),
                    ("call", "g", (box(0), num(1)), 1), ("call", "g", (box(0), box(1)), 0)):
            self.call(act, False)

    def test_gone_args(self):
        program = bare("c = call g d 7")
        marks = [((("f", 0),), [self.AHEAD])] * 2
        for one in (box(3), num(0), box(0)):
            self.asked(program, [([], ("call", "g", (one, num(7)), 1)), ([], ("wait", 2, 0))], marks, False)
        ahead = [((("f", 0),), [[box(0), box(1), box(2), box(3)]])] * 2
        self.asked(program, [([], ("call", "g", (box(3), num(7)), 1)), ([], ("wait", 2, 0))], ahead, True)

    def test_no_args(self):
        program = read("fn g\nback 0\nfn f\nc = call g\nback c")
        marks = [((("f", 0),), [[num(0)]])] * 2
        self.asked(program, [([], ("call", "g", (), 1)), ([], ("wait", None, 0))], marks, True)
        self.asked(program, [([], ("call", "g", (num(0),), 1)), ([], ("wait", None, 0))], marks, False)

    def inside(self, expected, sets=(), outer=None, inner=(), chain=(("f", 0), ("g", 0)), then=("go", 0), text=None):
        outer = self.AHEAD if outer is None else outer
        marks = [((("f", 0),), [self.AHEAD]), (chain, [list(outer), list(inner)])]
        self.asked(self.PROGRAM if text is None else bare(text), [(list(sets), ("go", 1)), ([], then)], marks, expected)

    def test_in_place(self):
        self.inside(True, inner=[box(0), box(1), num(0)])
        self.inside(True, inner=[None, None, None])
        self.inside(True, inner=[box(0), None, num(0)], outer=[None] * 4)
        self.inside(False, inner=[box(1), box(0), num(0)])
        self.inside(False, inner=[box(0), box(1), num(1)])
        self.inside(False, inner=[box(0), box(1), box(2)])
        self.inside(False, inner=[box(0), box(1), box(77)])
        self.inside(False, inner=[box(0), box(1), num(0)], outer=[box(0), box(1), num(0), None])
        self.inside(False, inner=[box(0), box(1), num(0)], outer=[box(0), box(1), box(2), num(0)])
        self.inside(False, inner=[box(0), box(1), num(0)], chain=(("f", 0), ("g", 1)))
        self.inside(False, inner=[None] * 4, chain=(("f", 0), ("f", 0)))
        self.inside(False, inner=[None] * 3, chain=(("f", 1), ("g", 0)))

    def test_in_place_with_sets(self):
        self.inside(True, [(5, num(0)), (6, box(0))], inner=[box(6), box(1), box(5)])
        self.inside(True, [(0, box(1)), (1, box(0))], [box(1), box(0), box(2), None], [box(1), box(0), num(0)])
        self.inside(False, [(0, box(1)), (1, box(0))], inner=[box(0), box(1), num(0)])

    def test_in_place_with_gone_and_numbers(self):
        self.inside(True, inner=[None, num(7), num(0)], text="c = call g d 7")
        self.inside(False, inner=[box(3), num(7), num(0)], text="c = call g d 7")
        self.inside(False, inner=[num(0), num(7), num(0)], text="c = call g d 7")
        self.inside(False, inner=[None, num(8), num(0)], text="c = call g d 7")

    def test_in_place_at_a_wait_spot(self):
        program = read("fn h\nback 0\nin g\na = call h\nback a\nfn f\nc = call g\nback c")
        marks = [((("f", 0),), [[None]]), ((("f", 0), ("g", 0)), [[None], [None]])]
        self.asked(program, [([], ("go", 1)), ([], ("wait", None, 0))], marks, False)
        self.asked(program, [([], ("go", 1)), ([], ("go", 0))], marks, True)

    def test_any_call_may_stand_in_place(self):
        program = read("fn f n\nm = call f n\nback m\nfn g\nback 0")
        chain = (("f", 0),)
        for deep in range(3):
            marks = [(chain, [[box(0), num(0)]] * len(chain)),
                     (chain + (("f", 0),), [[box(0), num(0)]] * (len(chain) + 1))]
            self.asked(program, [([], ("go", 1)), ([], ("go", 0))], marks, True)
            chain += (("f", 0),)


class BackTest(SpotsTest):
    PROGRAM = bare("c = call g a b")

    def test_out_of_one_frame(self):
        for act, expected in ((("back", box(0)), True), (("back", box(1)), False), (("back", num(0)), False),
                              (("back", ("+", box(0), num(0))), False), (("go", 0), False)):
            marks = [((("f", 2),), [self.AHEAD])]
            self.asked(self.PROGRAM, [([], act)], marks, expected)
            self.asked(self.PROGRAM, [([(0, num(4))], act)], marks, expected)
        gone = [((("f", 2),), [[None] * 4])]
        self.asked(self.PROGRAM, [([], ("back", box(0)))], gone, False)
        self.asked(read("fn f\nback 7"), [([], ("back", num(7)))], [((("f", 0),), [[]])], True)
        self.asked(read("fn f\nback 7"), [([], ("back", num(8)))], [((("f", 0),), [[]])], False)

    def leave(self, expected, behind, sets=(), ahead=None, act=("go", 1), to=(("f", 1),), then=("go", 0)):
        ahead = [self.AHEAD, [box(4), box(5), box(6)]] if ahead is None else ahead
        marks = [((("f", 0), ("g", 1)), ahead), (to, [list(behind)])]
        self.asked(self.PROGRAM, [(list(sets), act), ([], then)], marks, expected)

    def test_into_the_frame_ahead(self):
        self.leave(True, [box(0), box(1), box(6), None])
        self.leave(True, [None] * 4)
        self.leave(False, [box(0), box(1), box(2), None])
        self.leave(False, [box(0), box(1), box(4), None])
        self.leave(False, [box(6), box(1), box(6), None])
        self.leave(False, [box(0), box(1), box(6), num(0)])
        self.leave(True, [box(0), box(1), box(2), None], [(2, box(6))])
        self.leave(False, [box(0), box(1), box(6), None], [(6, num(0))])
        self.leave(False, [box(0), box(1), box(6), None], to=(("f", 0),))
        self.leave(False, [box(0), box(1), box(6), None], to=(("f", 2),))
        self.leave(False, [None] * 4, act=("back", box(6)))
        self.leave(False, [None] * 4, act=("out", box(6), 1))

    def test_of_a_gone_name(self):
        ahead = [self.AHEAD, [box(4), box(5), None]]
        self.leave(True, [box(0), box(1), None, None], ahead=ahead)
        self.leave(False, [box(0), box(1), box(6), None], ahead=ahead)
        self.leave(False, [box(0), box(1), box(2), None], ahead=ahead)

    def test_of_a_number(self):
        program = read("in g\nback 7\nfn f\nc = call g\nback c")
        marks = [((("f", 0), ("g", 0)), [[None], []]), ((("f", 1),), [[num(7)]])]
        self.asked(program, [([], ("go", 1)), ([], ("go", 0))], marks, True)
        marks[1] = ((("f", 1),), [[num(0)]])
        self.asked(program, [([], ("go", 1)), ([], ("go", 0))], marks, False)

    def test_to_the_way_of_the_call(self):
        program = read("in g\nback 7\nfn f a\nwhile a\na = call g\nend\nback a")
        marks = [((("f", 1), ("g", 0)), [[None], []]), ((("f", 0),), [[num(7)]]), ((("f", 3),), [[num(7)]])]
        self.asked(program, [([], ("go", 1))] * 3, marks, True)
        self.asked(program, [([], ("go", 2))] * 3, marks, False)

    def test_out_of_three_frames(self):
        program = read("in h a\nback a\nin g a\nb = call h a\nback b\nfn f a\nb = call g a\nback b")
        marks = [((("f", 0), ("g", 0), ("h", 0)), [[box(0), num(0)], [box(0), num(0)], [box(3)]]),
                 ((("f", 0), ("g", 1)), [[box(0), num(0)], [box(0), box(3)]]),
                 ((("f", 1),), [[box(0), box(3)]])]
        spots = [([], ("go", 1)), ([], ("go", 2)), ([], ("back", box(3)))]
        for k in range(3):
            self.asked(program, spots, marks, True, k)
        self.asked(program, [([], ("go", 2)), ([], ("go", 1)), ([], ("go", 2))], marks, False, 0)
        other = marks[:1] + [((("f", 0), ("g", 1)), [[box(0), box(3)], [box(0), num(0)]])] + marks[2:]
        self.asked(program, spots, other, False, 0)

    def test_at_a_wait_spot(self):
        program = read("in g\nback 7\nfn f\nc = call g\nd = call g\nback c")
        marks = [((("f", 0), ("g", 0)), [[None, None], []]), ((("f", 1),), [[None, None]])]
        self.asked(program, [([], ("go", 1)), ([], ("wait", None, 0))], marks, False)
        self.asked(program, [([], ("go", 1)), ([], ("go", 0))], marks, True)


class WaitTest(SpotsTest):
    PROGRAM = bare("c = call g a b")

    def wait(self, filled, behind, expected, sets=(), to=(("f", 1),), then=("go", 0), ahead=None):
        marks = [((("f", 0),), [list(ahead or self.AHEAD)]), (to, [list(behind)])]
        self.asked(self.PROGRAM, [(list(sets), ("wait", filled, 1)), ([], then)], marks, expected)

    def test_the_x_is_what_comes_back(self):
        self.wait(2, [box(0), box(1), box(2), None], True)
        self.wait(9, [box(0), box(1), box(9), None], True)
        self.wait(9, [box(0), box(1), box(2), None], False)
        self.wait(None, [box(0), box(1), None, None], True)
        for place in (box(2), num(0), box(0)):
            self.wait(None, [box(0), box(1), place, None], False)
        self.wait(2, [box(0), box(2), None, None], False)
        self.wait(2, [box(0), box(1), ("+", box(2), num(0)), None], False)

    def test_all_else_is_as_ahead(self):
        self.wait(2, [box(0), box(0), box(2), None], False)
        self.wait(2, [None, None, None, None], True)
        self.wait(2, [box(0), box(1), box(2), box(3)], False)
        self.wait(0, [box(0), box(1), box(2), None], False)
        self.wait(0, [None, box(1), box(0), None], True)

    def test_sets_of_a_wait(self):
        self.wait(2, [box(5), box(1), box(2), None], True, [(5, box(0)), (0, num(1))])
        self.wait(2, [box(0), box(1), box(2), None], False, [(5, box(0)), (0, num(1))])
        self.wait(2, [box(0), box(1), box(2), None], True, [(2, num(1))])

    def test_where_it_comes_to(self):
        self.wait(2, [None] * 4, False, to=(("f", 0),))
        self.wait(2, [None] * 4, False, to=(("f", 2),))
        self.wait(2, [None] * 4, False, then=("wait", None, 0))
        program = read("fn g\nback 0\nfn f a\nwhile a\na = call g\nend\nback a")
        marks = [((("f", 1),), [[None]]), ((("f", 0),), [[box(0)]]), ((("f", 3),), [[box(0)]])]
        self.asked(program, [([], ("wait", 0, 1))] + [([], ("go", 0))] * 2, marks, True)
        self.asked(program, [([], ("wait", 0, 2))] + [([], ("go", 0))] * 2, marks, False)

    def test_a_wait_in_a_chain(self):
        program = read("fn far\nback 0\nin g a\nb = call far\nback b\nfn f a b\nb = call g a\nback b")
        ahead = ((("f", 0), ("g", 0)), [[box(0), box(1)], [box(0), num(0)]])
        good = ((("f", 0), ("g", 1)), [[box(0), box(1)], [box(0), box(5)]])
        self.asked(program, [([], ("wait", 5, 1)), ([], ("go", 0))], [ahead, good], True)
        outer = ((("f", 0), ("g", 1)), [[box(0), box(5)], [box(0), None]])
        self.asked(program, [([], ("wait", 5, 1)), ([], ("go", 0))], [ahead, outer], False)
        self.asked(program, [([], ("wait", 1, 1)), ([], ("go", 0))], [ahead, good], False)


class LevelsTest(SpotsTest):
    """Names that are written alike stand apart in frames of one chain."""

    PROGRAM = read("in g a b\na = a + b\nback a\nfn f a b\na = call g b a\nback a")

    def test_the_innermost_frame_is_changed(self):
        ahead = ((("f", 0), ("g", 0)), [[box(0), box(1)], [box(1), box(0)]])
        total = ("+", box(1), box(0))
        for views, expected in (([[box(0), box(1)], [total, box(0)]], True),
                                ([[total, box(1)], [box(1), box(0)]], False),
                                ([[box(0), box(1)], [box(1), box(0)]], False),
                                ([[total, box(1)], [total, box(0)]], False),
                                ([[box(0), box(1)], [("+", box(0), box(1)), box(0)]], False),
                                ([[None, None], [None, None]], True)):
            marks = [ahead, ((("f", 0), ("g", 1)), views)]
            self.asked(self.PROGRAM, [([], ("go", 1)), ([], ("go", 0))], marks, expected)

    def test_a_row_within_a_chain_moves_its_last_frame(self):
        program = read("in g a\nb = a\nout a\nback b\nfn f a\nout a\nout a\nb = call g a\nback b")
        go = ([], ("go", 0))
        ahead, behind = [[box(0), num(0)], [box(0), num(0)]], [[box(0), num(0)], [box(0), box(0)]]
        for row, expected in ((1, True), (0, False), (2, False)):
            marks = [((("f", 2), ("g", 0)), ahead), ((("f", 2), ("g", row)), behind)]
            self.asked(program, [([], ("go", 1)), go], marks, expected)
        marks = [((("f", 2), ("g", 0)), ahead), ((("f", 3), ("g", 1)), behind)]
        self.asked(program, [([], ("go", 1)), go], marks, False)

    def test_rows_of_a_chain_that_a_go_does_not_do(self):
        program = read("in g a\nout a\nput a f a\nb = new\nif a\nend\nback b\nfn f a\nb = call g a\nback b")
        for row, to in ((0, 1), (1, 2), (2, 3), (3, 5)):
            ahead = ((("f", 0), ("g", row)), [[box(0), num(0)], [box(0), num(0)]])
            for mark in (((("f", 0), ("g", to)), [[None, None], [None, None]]), ((("f", 1),), [[None, None]])):
                self.asked(program, [([], ("go", 1)), ([], ("go", 0))], [ahead, mark], False)

    def test_a_call_within_a_chain_enters_from_its_last_frame(self):
        program = read("in h a\nback a\nin g a b\nc = call h b\nback c\nfn f a b\nc = call g b a\nback c")
        outer = [[box(0), box(1), num(0)], [box(1), box(7), num(0)]]
        for inner, expected in ((box(7), True), (box(1), False), (box(0), False), (None, True), (num(0), False)):
            marks = [((("f", 0), ("g", 0)), outer), ((("f", 0), ("g", 0), ("h", 0)), outer + [[inner]])]
            self.asked(program, [([], ("go", 1)), ([], ("go", 0))], marks, expected)

    def test_a_back_within_a_chain_gives_the_frame_straight_ahead(self):
        program = read("in h a\nback a\nin g a\nd = call h a\nback d\nfn f a\nout a\nc = call g a\nback c")
        ahead = ((("f", 1), ("g", 0), ("h", 0)), [[box(0), num(0)], [box(0), num(0)], [box(3)]])
        for views, expected in (([[box(0), num(0)], [box(0), box(3)]], True),
                                ([[box(0), box(3)], [box(0), num(0)]], False),
                                ([[box(0), num(0)], [box(0), num(0)]], False)):
            marks = [ahead, ((("f", 1), ("g", 1)), views)]
            self.asked(program, [([], ("go", 1)), ([], ("go", 0))], marks, expected)
        marks = [((("f", 1), ("g", 1)), [[box(0), num(0)], [box(0), box(3)]]), ((("f", 2),), [[box(0), box(3)]])]
        self.asked(program, [([], ("go", 1)), ([], ("go", 0))], marks, True)

    def test_the_call_enters_with_its_args(self):
        ahead = ((("f", 0),), [[box(0), box(1)]])
        for views, expected in (([[box(0), box(1)], [box(1), box(0)]], True),
                                ([[box(0), box(1)], [box(0), box(1)]], False),
                                ([[box(1), box(0)], [box(1), box(0)]], False)):
            marks = [ahead, ((("f", 0), ("g", 0)), views)]
            self.asked(self.PROGRAM, [([], ("go", 1)), ([], ("go", 0))], marks, expected)


if __name__ == "__main__":
    unittest.main()
