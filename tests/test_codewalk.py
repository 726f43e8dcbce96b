"""The walk on code, and what is told of it by the table."""

import copy
import random
import unittest

from stopglass.codewalk import CodeWalker
from stopglass.errors import Ended, GlassError, NoName
from stopglass.texts import read
from stopglass.walkers import TextWalker, Walker

from tests.helper import SIGNS, Unchanged, sign_value, some_args, some_code, some_program

TOP = 2 ** 48 - 1


def box(k):
    return ("box", k)


def num(v):
    return ("num", v)


# The acts are walked as they stand, so the text behind them may be any one: its last function is f, with x to z.
ANY = read("fn g a\nb = a\nback b\nfn f x y z\nw = call g x\nback w")
NOWHERE = ((("f", 0),), [[box(0), box(1), box(2), box(3)]])


def on(spots, args=(), more=(), marks=None):
    """A walker on these spots of f, and of g where more are told."""
    code = [("g", list(more)), ("f", list(spots))]
    table = [("g", [((("g", 0),), [[box(0), box(1)]])] * len(more)), ("f", marks or [NOWHERE] * len(spots))]
    return CodeWalker(ANY, code, table, list(args))


def boxes(walker, count=4):
    """The boxes of the innermost frame, told by place, one after the other."""
    return [walker.stack[-1].boxes.get(k, 0) for k in range(count)]


class ActsTest(unittest.TestCase):
    def test_begin(self):
        walker = on([([], ("back", num(0)))], [5, 6])
        self.assertEqual([walker.told(0, name) for name in "xyzw"], [5, 6, 0, 0])
        self.assertEqual(walker.frames(), [("f", 0)])
        self.assertIs(walker.ended(), False)
        self.assertIsNone(walker.answer())
        self.assertEqual(walker.sent(), [])
        self.assertEqual(walker.field(1, "f"), 0)

    def test_back_ends(self):
        walker = on([([], ("back", ("+", box(0), num(2))))], [TOP])
        self.assertIsNone(walker.step())
        self.assertIs(walker.ended(), True)
        self.assertEqual(walker.answer(), 1)
        self.assertIs(type(walker.answer()), int)
        self.assertEqual(walker.frames(), [])

    def test_the_answer_is_of_the_boxes_ahead_of_the_sets(self):
        walker = on([([(0, num(9))], ("back", box(0)))], [4])
        walker.step()
        self.assertEqual(walker.answer(), 4)

    def test_go(self):
        walker = on([([], ("go", 2)), ([], ("back", num(1))), ([], ("go", 1))])
        self.assertEqual([walker.step(), walker.step(), walker.step()], [None] * 3)
        self.assertEqual(walker.answer(), 1)

    def test_go_to_itself(self):
        walker = on([([(0, ("+", box(0), num(1)))], ("go", 0))])
        for _ in range(50):
            walker.step()
        self.assertEqual(walker.told(0, "x"), 50)

    def test_sets_are_done_all_at_once(self):
        walker = on([([(0, box(1)), (1, box(0))], ("go", 1)),
                     ([(2, ("+", box(0), box(1))), (0, box(2)), (1, num(7)), (3, box(1))], ("go", 0))], [5, 6])
        walker.step()
        self.assertEqual(boxes(walker), [6, 5, 0, 0])
        walker.step()
        self.assertEqual(boxes(walker), [0, 7, 11, 5])

    def test_set_by_each_sign(self):
        for sign in SIGNS:
            for one, other in ((12, 10), (10, 12), (TOP, 2), (5, 0)):
                walker = on([([(2, (sign, box(0), box(1)))], ("go", 0))], [one, other])
                walker.step()
                self.assertEqual(boxes(walker), [one, other, sign_value(sign, one, other), 0])

    def test_if(self):
        for number, expected in ((0, 8), (1, 7), (TOP, 7)):
            walker = on([([], ("if", box(0), 1, 2)), ([], ("back", num(7))), ([], ("back", num(8)))], [number])
            self.assertIsNone(walker.step())
            walker.step()
            self.assertEqual(walker.answer(), expected)

    def test_an_act_speaks_of_the_boxes_ahead_of_its_own_sets(self):
        for ahead, expected in ((0, 8), (3, 7)):
            walker = on([([(0, num(1 if ahead == 0 else 0))], ("if", box(0), 1, 2)), ([], ("back", num(7))),
                         ([], ("back", num(8)))], [ahead])
            walker.step()
            walker.step()
            self.assertEqual(walker.answer(), expected)
        walker = on([([(0, num(9))], ("out", box(0), 1)), ([(0, num(8)), (1, num(7))], ("put", box(0), "f", box(1), 2)),
                     ([(0, num(6))], ("get", box(0), "f", 1, 0))], [4, 5])
        self.assertEqual(walker.step(), ("out", 4))
        self.assertEqual(walker.step(), ("put", 9, "f", 5))
        self.assertEqual(boxes(walker), [8, 7, 0, 0])
        walker.put_field(8, "f", 33)
        self.assertIsNone(walker.step())
        self.assertEqual(boxes(walker), [6, 33, 0, 0])

    def test_out(self):
        walker = on([([], ("out", ("*", box(0), num(2)), 1)), ([], ("out", num(3), 0))], [4])
        self.assertEqual([walker.step(), walker.step(), walker.step()], [("out", 8), ("out", 3), ("out", 8)])
        self.assertEqual(walker.sent(), [8, 3, 8])

    def test_put_and_get(self):
        walker = on([([], ("put", box(0), "f", box(1), 1)), ([], ("put", num(0), "g", ("+", box(1), num(1)), 2)),
                     ([], ("get", box(0), "f", 2, 3)), ([], ("get", num(0), "g", 3, 4)), ([], ("get", num(0), "f", 0, 5)),
                     ([], ("back", num(0)))], [TOP, 6])
        self.assertEqual([walker.step(), walker.step()], [("put", TOP, "f", 6), ("put", 0, "g", 7)])
        self.assertEqual([walker.step(), walker.step()], [None, None])
        self.assertEqual(boxes(walker), [TOP, 6, 6, 7])
        walker.step()
        self.assertEqual(boxes(walker), [0, 6, 6, 7])
        walker.step()
        self.assertEqual((walker.field(TOP, "f"), walker.field(0, "g"), walker.field(0, "f")), (6, 7, 0))

    def test_new(self):
        walker = on([([], ("new", 2, 1)), ([], ("new", None, 2)), ([], ("new", 0, 0))], [9])
        self.assertEqual([walker.step(), walker.step(), walker.step()], [("new", 1), ("new", 2), ("new", 3)])
        self.assertEqual(boxes(walker), [3, 0, 1, 0])

    def test_get_and_new_with_none(self):
        walker = on([([(1, num(3))], ("get", box(0), "f", None, 1)), ([(2, num(4))], ("new", None, 0))], [9])
        walker.put_field(9, "f", 77)
        self.assertIsNone(walker.step())
        self.assertEqual(walker.step(), ("new", 1))
        self.assertEqual(walker.stack[-1].boxes, {0: 9, 1: 3, 2: 4})

    def test_a_box_that_is_set_and_filled(self):
        walker = on([([(1, num(3)), (2, box(1))], ("get", box(0), "f", 1, 1)), ([(1, num(3)), (2, box(1))], ("new", 1, 0))],
                    [9, 8])
        walker.put_field(9, "f", 77)
        walker.step()
        self.assertEqual(boxes(walker), [9, 77, 8, 0])
        walker.step()
        self.assertEqual(boxes(walker), [9, 1, 77, 0])

    def test_call_and_back(self):
        walker = on([([(0, num(100)), (1, box(0))], ("call", "g", (box(0), ("+", box(1), num(1))), 1)),
                     ([(2, box(0)), (0, box(1))], ("wait", 3, 2)), ([], ("back", box(3)))], [5, 6],
                    [([(0, num(50))], ("go", 1)), ([(1, num(60))], ("back", ("-", box(0), box(1))))])
        self.assertIsNone(walker.step())
        self.assertEqual(walker.frames(), [("f", 0), ("g", 0)])
        self.assertEqual(boxes(walker), [5, 7, 0, 0])
        self.assertEqual([walker.told(0, name) for name in "xyzw"], [100, 5, 0, 0])
        walker.step()
        self.assertEqual(boxes(walker), [50, 7, 0, 0])
        self.assertEqual([walker.told(0, name) for name in "xyzw"], [100, 5, 0, 0])
        self.assertIsNone(walker.step())
        self.assertEqual(walker.frames(), [("f", 0)])
        self.assertEqual(boxes(walker), [5, 5, 100, 43])
        walker.step()
        self.assertEqual(walker.answer(), 43)

    def test_wait_with_none_and_with_a_box_that_it_sets(self):
        for filled, expected in ((None, [5, 9, 0, 0]), (1, [5, 7, 0, 0]), (0, [7, 9, 0, 0])):
            walker = on([([], ("call", "g", (num(7),), 1)), ([(1, num(9))], ("wait", filled, 2)), ([], ("back", num(0)))],
                        [5, 6], [([], ("back", box(0)))])
            walker.step()
            walker.step()
            self.assertEqual(boxes(walker), expected)

    def test_args_of_calls(self):
        for count in range(7):
            walker = on([([], ("call", "g", tuple(num(k + 10) for k in range(count)), 1)), ([], ("wait", None, 0))],
                        [5, 6, 7], [([], ("back", num(0)))])
            walker.step()
            self.assertEqual(boxes(walker, 8), [k + 10 for k in range(count)] + [0] * (8 - count))

    def test_boxes_up_to_127(self):
        walker = on([([(127, num(9)), (64, num(8))], ("go", 1)), ([(0, ("+", box(127), box(64)))], ("go", 0))])
        walker.step()
        walker.step()
        self.assertEqual(walker.told(0, "x"), 17)


# f is called within itself: while n, with m as each frame's own.
SELF = read("fn f n\nm = n * 10\nif n\nk = n - 1\nr = call f k\nm = m + r\nend\nback m")
SELF_CODE = [("f", [
    ([], ("go", 1)),
    ([], ("if", box(0), 2, 6)),
    ([(1, ("-", box(0), num(1)))], ("go", 3)),
    ([], ("call", "f", (box(1),), 4)),
    ([], ("wait", 2, 5)),
    ([(3, ("+", ("*", box(0), num(10)), box(2)))], ("go", 7)),
    ([(3, ("*", box(0), num(10)))], ("back", ("*", box(0), num(10)))),
    ([], ("back", box(3))),
])]


def self_mark(row, m, k=num(0), r=num(0)):
    return ((("f", row),), [[box(0), m, k, r]])


TEN = ("*", box(0), num(10))
SELF_TABLE = [("f", [
    self_mark(0, num(0)), self_mark(1, TEN), self_mark(2, TEN), self_mark(3, TEN, box(1)), self_mark(3, TEN, box(1)),
    self_mark(4, TEN, None, box(2)), self_mark(6, TEN), self_mark(6, box(3), None, None),
])]


class DeepTest(unittest.TestCase):
    def test_frames_of_one_function_within_one_another(self):
        plain, walker = TextWalker(SELF, [40]), CodeWalker(SELF, SELF_CODE, SELF_TABLE, [40])
        deepest = 0
        while not plain.ended():
            frames = plain.frames()
            deepest = max(deepest, len(frames))
            self.assertEqual(walker.frames(), frames)
            for level in range(len(frames)):
                for name in "nmkr":
                    told = walker.told(level, name)
                    if told is None:
                        self.assertIn((level + 1, name in "kr"), ((len(frames), True),))
                    else:
                        self.assertEqual(told, plain.told(level, name))
                self.assertEqual([mate[0] for mate in walker.mates(level)], [level] * 4)
            self.assertEqual(walker.step(), plain.step())
        self.assertEqual(deepest, 41)
        self.assertEqual((walker.ended(), walker.answer()), (True, plain.answer()))
        self.assertEqual(walker.answer(), sum(range(41)) * 10)

    def test_some_hundred_frames(self):
        walker = CodeWalker(SELF, SELF_CODE, SELF_TABLE, [390])
        steps = 0
        while not walker.ended():
            walker.step()
            steps += 1
            if len(walker.frames()) == 391:
                self.assertEqual([walker.told(level, "n") for level in range(391)], list(range(390, -1, -1)))
                with self.assertRaises(NoName):
                    walker.told(391, "n")
        self.assertEqual(walker.answer(), sum(range(391)) * 10)
        self.assertLess(steps, 3000)


# h stands in g, and g in f, in place of their calls; f calls far by a call; so chains of one to three frames.
CHAINED = read("fn far a\nb = a * 2\nback b\nin h a\nc = a + 1\nback c\nin g a b\nc = call h b\nd = call far c\n"
               "c = c * a\nback c\nfn f x\nx = x + 3\ny = call g x 5\nout y\nback y")
CHAINED_CODE = [
    ("far", [([], ("go", 1)), ([], ("back", ("*", box(0), num(2))))]),
    ("h", [([], ("go", 1)), ([], ("back", ("+", box(0), num(1))))]),
    ("g", [([], ("back", num(0)))]),
    ("f", [
        ([(0, ("+", box(0), num(3)))], ("go", 1)),
        ([], ("go", 2)),
        ([], ("go", 3)),
        ([], ("go", 4)),
        ([], ("go", 5)),
        ([(7, box(0))], ("call", "far", (num(6),), 6)),
        ([(8, ("+", box(7), num(0)))], ("wait", 2, 7)),
        ([(1, ("*", num(6), box(0)))], ("go", 8)),
        ([], ("go", 9)),
        ([], ("out", box(1), 10)),
        ([], ("back", box(1))),
    ]),
]
NO_G = ((("g", 3),), [[None] * 4])
CHAINED_TABLE = [
    ("far", [((("far", 0),), [[box(0), num(0)]]), ((("far", 1),), [[box(0), ("*", box(0), num(2))]])]),
    ("h", [((("h", 0),), [[box(0), num(0)]]), ((("h", 1),), [[box(0), ("+", box(0), num(1))]])]),
    ("g", [NO_G]),
    ("f", [
        ((("f", 0),), [[box(0), num(0)]]),
        ((("f", 1),), [[box(0), num(0)]]),
        ((("f", 1), ("g", 0)), [[box(0), num(0)], [box(0), num(5), num(0), num(0)]]),
        ((("f", 1), ("g", 0), ("h", 0)), [[box(0), None], [box(0), num(5), num(0), num(0)], [num(5), num(0)]]),
        ((("f", 1), ("g", 0), ("h", 1)), [[box(0), num(0)], [box(0), num(5), num(0), num(0)], [num(5), num(6)]]),
        ((("f", 1), ("g", 1)), [[box(0), num(0)], [box(0), num(5), num(6), num(0)]]),
        ((("f", 1), ("g", 1)), [[box(7), num(0)], [box(0), num(5), num(6), None]]),
        ((("f", 1), ("g", 2)), [[box(0), num(0)], [box(0), None, num(6), box(2)]]),
        ((("f", 1), ("g", 3)), [[box(0), num(0)], [box(0), None, box(1), box(2)]]),
        ((("f", 2),), [[box(0), box(1)]]),
        ((("f", 3),), [[box(0), box(1)]]),
    ]),
]


def chained(steps, x=4):
    walker = CodeWalker(CHAINED, CHAINED_CODE, CHAINED_TABLE, [x])
    for _ in range(steps):
        walker.step()
    return walker


class ToldTest(unittest.TestCase):
    def test_frames_are_the_chains(self):
        plain, walker, lengths = TextWalker(CHAINED, [4]), chained(0), []
        while not plain.ended():
            self.assertEqual(walker.frames(), plain.frames())
            self.assertIs(type(walker.frames()), list)
            lengths.append(len(walker.frames()))
            self.assertEqual(walker.step(), plain.step())
        self.assertEqual(lengths, [1, 1, 2, 3, 3, 2, 3, 3, 2, 2, 1, 1])
        self.assertEqual((walker.ended(), walker.answer(), walker.sent()), (True, 42, [42]))

    def test_values_are_told_by_the_places(self):
        plain, walker, gone = TextWalker(CHAINED, [4]), chained(0), []
        names = {"far": "ab", "h": "ac", "g": "abcd", "f": "xy"}
        stop = 0
        while not plain.ended():
            for level, (function, _) in enumerate(plain.frames()):
                for name in names[function]:
                    told = walker.told(level, name)
                    if told is None:
                        gone.append((stop, level, name))
                    else:
                        self.assertEqual(told, plain.told(level, name), (stop, level, name))
                        self.assertIs(type(told), int)
            walker.step()
            plain.step()
            stop += 1
        self.assertEqual(gone, [(3, 0, "y"), (6, 1, "d"), (7, 1, "d"), (8, 1, "b"), (9, 1, "b")])

    def test_place(self):
        walker = chained(3)
        self.assertEqual([walker.place(0, name) for name in "xy"], [box(0), None])
        self.assertEqual([walker.place(1, name) for name in "abcd"], [box(0), num(5), num(0), num(0)])
        self.assertEqual([walker.place(2, name) for name in "ac"], [num(5), num(0)])
        self.assertEqual([walker.told(0, name) for name in "xy"], [7, None])
        walker = chained(7)
        self.assertEqual(walker.frames(), [("f", 1), ("g", 1), ("far", 1)])
        self.assertEqual([walker.place(0, "x"), walker.place(1, "c"), walker.place(2, "b")],
                         [box(7), num(6), ("*", box(0), num(2))])
        self.assertEqual([walker.told(0, "x"), walker.told(1, "a"), walker.told(2, "b")], [7, 7, 12])

    def test_mates(self):
        walker = chained(3)
        mates = [(0, "x", box(0)), (0, "y", None), (1, "a", box(0)), (1, "b", num(5)), (1, "c", num(0)),
                 (1, "d", num(0)), (2, "a", num(5)), (2, "c", num(0))]
        for level in range(3):
            self.assertEqual(walker.mates(level), mates)
            self.assertIs(type(walker.mates(level)), list)
            self.assertIs(type(walker.mates(level)[0]), tuple)
        walker = chained(7)
        for level in (0, 1):
            self.assertEqual(walker.mates(level), [
                (0, "x", box(7)), (0, "y", num(0)), (1, "a", box(0)), (1, "b", num(5)), (1, "c", num(6)),
                (1, "d", None)])
        self.assertEqual(walker.mates(2), [(2, "a", box(0)), (2, "b", ("*", box(0), num(2)))])

    def test_fill_box(self):
        walker = chained(3)
        self.assertIs(walker.fill_box(2, 0, 50), True)
        self.assertEqual([walker.told(0, "x"), walker.told(1, "a"), walker.told(2, "a")], [50, 50, 5])
        walker.fill_box(0, 0, 60)
        self.assertEqual([walker.told(0, "x"), walker.told(1, "a")], [60, 60])
        walker.fill_box(1, 99, 7)
        self.assertEqual(walker.stack[0].boxes[99], 7)
        walker = chained(7)
        self.assertIs(walker.fill_box(1, 7, TOP), True)
        self.assertIs(walker.fill_box(2, 0, 8), True)
        self.assertEqual([walker.told(0, "x"), walker.told(1, "a"), walker.told(2, "a"), walker.told(2, "b")],
                         [TOP, 7, 8, 16])
        walker.fill_box(0, 0, 3)
        self.assertEqual([walker.told(0, "x"), walker.told(1, "a"), walker.told(2, "a")], [TOP, 3, 8])
        walker.step()
        self.assertEqual([walker.told(1, "d"), walker.told(1, "a")], [16, 3])
        while not walker.ended():
            walker.step()
        self.assertEqual(walker.answer(), 18)

    def test_fill_box_in_frames_of_one_function(self):
        walker = CodeWalker(SELF, SELF_CODE, SELF_TABLE, [3])
        while len(walker.frames()) < 4:
            walker.step()
        for level in range(4):
            self.assertIs(walker.fill_box(level, 0, 1000 + level), True)
        self.assertEqual([walker.told(level, "n") for level in range(4)], [1000, 1001, 1002, 1003])
        self.assertEqual([walker.told(level, "m") for level in range(4)], [10000, 10010, 10020, 0])
        self.assertEqual([walker.told(level, "k") for level in range(4)], [2, 1, 0, 0])

    def test_lists_told_are_the_askers_own(self):
        walker = chained(7)
        for told in (walker.frames, lambda: walker.mates(0), walker.sent):
            ahead = list(told())
            told().append("more")
            told().clear()
            self.assertEqual(told(), ahead)
        self.assertEqual(walker.told(0, "x"), 7)

    def test_kinds(self):
        walker = chained(0)
        self.assertIsInstance(walker, Walker)
        self.assertTrue(issubclass(CodeWalker, Walker))
        self.assertFalse(issubclass(CodeWalker, TextWalker))


class RefusedTest(unittest.TestCase):
    def state(self, walker):
        return (walker.frames(), [(frame.function, frame.spot, dict(frame.boxes)) for frame in walker.stack],
                walker.sent(), walker.answer(), walker.ended(), walker.records, dict(walker.contents))

    def no_name(self, walker, ask, *asked):
        ahead = self.state(walker)
        with self.assertRaises(NoName) as caught:
            ask(*asked)
        self.assertIs(type(caught.exception), NoName)
        self.assertIsInstance(caught.exception, GlassError)
        self.assertEqual(self.state(walker), ahead)

    def test_levels_that_are_not_there(self):
        for steps in range(12):
            walker = chained(steps)
            count = len(walker.frames())
            for level in (-1, -2, -count, -count - 1, count, count + 1, 1000, -(2 ** 60), 2 ** 60):
                for name in ("x", "a", "c", "zz"):
                    self.no_name(walker, walker.told, level, name)
                    self.no_name(walker, walker.place, level, name)
                self.no_name(walker, walker.mates, level)
                self.no_name(walker, walker.fill_box, level, 0, 5)

    def test_names_of_no_such_frame(self):
        walker = chained(7)
        for level, names in ((0, "xy"), (1, "abcd"), (2, "ab")):
            for name in ("a", "b", "c", "d", "x", "y", "f", "g", "", "X"):
                if name and name in names:
                    walker.told(level, name)
                    walker.place(level, name)
                else:
                    self.no_name(walker, walker.told, level, name)
                    self.no_name(walker, walker.place, level, name)

    def test_behind_the_end(self):
        walker = chained(12)
        self.assertIs(walker.ended(), True)
        for level in (-1, 0, 1, 2):
            self.no_name(walker, walker.told, level, "x")
            self.no_name(walker, walker.place, level, "x")
            self.no_name(walker, walker.mates, level)
            self.no_name(walker, walker.fill_box, level, 0, 1)
        ahead = self.state(walker)
        for _ in range(3):
            with self.assertRaises(Ended) as caught:
                walker.step()
            self.assertIs(type(caught.exception), Ended)
        self.assertEqual(self.state(walker), ahead)
        self.assertEqual((walker.answer(), walker.sent(), walker.frames()), (42, [42], []))

    def test_fields_and_what_was_sent_behind_the_end(self):
        walker = on([([], ("put", num(3), "f", num(4), 1)), ([], ("out", num(5), 2)), ([], ("back", num(0)))])
        while not walker.ended():
            walker.step()
        self.assertEqual((walker.field(3, "f"), walker.field(3, "g"), walker.sent(), walker.answer()), (4, 0, [5], 0))


class HandedInTest(unittest.TestCase):
    def test_nothing_handed_in_is_changed(self):
        args = [4]
        with Unchanged(self, CHAINED, CHAINED_CODE, CHAINED_TABLE, args):
            walker = CodeWalker(CHAINED, CHAINED_CODE, CHAINED_TABLE, args)
            while not walker.ended():
                walker.mates(0).clear()
                walker.fill_box(0, 40, 3)
                walker.step()

    def test_what_is_done_to_it_behind_changes_nothing(self):
        for steps in range(12):
            program, code, table, args = copy.deepcopy((CHAINED, CHAINED_CODE, CHAINED_TABLE, [4]))
            walker, other = CodeWalker(program, code, table, args), chained(0)
            for _ in range(steps):
                walker.step()
                other.step()
            for _, spots in code:
                for sets, _ in spots:
                    sets.append((0, num(77)))
                    sets.reverse()
                spots.reverse()
                spots.append(([], ("go", 0)))
            for _, marks in table:
                for _, views in marks:
                    for places in views:
                        places[0] = num(66)
                        places.clear()
                    views.clear()
                marks.reverse()
            args[0] = 1000
            for handed in (program, code, table, args):
                handed.reverse()
                handed.clear()
            while not other.ended():
                self.assertEqual(walker.frames(), other.frames())
                for level in range(len(other.frames())):
                    self.assertEqual(walker.mates(level), other.mates(level))
                    for _, name, _ in [mate for mate in other.mates(level) if mate[0] == level]:
                        self.assertEqual(walker.told(level, name), other.told(level, name))
                self.assertEqual(walker.step(), other.step())
            self.assertEqual(walker.answer(), 42)

    def test_two_walkers_side_by_side(self):
        one, other = chained(0, 4), chained(0, 5)
        for _ in range(5):
            one.step()
        for _ in range(7):
            other.step()
        one.fill_box(0, 0, 9)
        self.assertEqual((one.told(0, "x"), other.told(0, "x")), (9, 8))
        self.assertEqual((len(one.frames()), len(other.frames())), (2, 3))
        one, other = on([([], ("new", 0, 0))]), on([([], ("new", 0, 0))])
        self.assertEqual([one.step(), one.step(), other.step()], [("new", 1), ("new", 2), ("new", 1)])


class NotHoldingTest(unittest.TestCase):
    def test_marks_of_other_rows_and_places(self):
        marks = [((("f", 44), ("g", -3)), [[num(1), num(2), num(3), None], [box(0), ("+", box(1), num(1))]]),
                 ((("g", 1),), [[num(8), num(9)]])]
        walker = on([([(0, num(6))], ("out", num(5), 1)), ([], ("back", num(0)))], [3], (), marks)
        self.assertEqual(walker.frames(), [("f", 44), ("g", -3)])
        self.assertEqual([walker.told(0, name) for name in "xyzw"], [1, 2, 3, None])
        self.assertEqual([walker.told(1, name) for name in "ab"], [3, 1])
        self.assertEqual(walker.step(), ("out", 5))
        self.assertEqual(walker.frames(), [("g", 1)])
        self.assertEqual(walker.mates(0), [(0, "a", num(8)), (0, "b", num(9))])
        with self.assertRaises(NoName):
            walker.told(0, "x")

    def test_code_that_is_another_one(self):
        walker = on([([], ("call", "f", (num(1), num(2)), 1)), ([], ("wait", 0, 2)), ([], ("new", 1, 3)),
                     ([], ("back", num(3)))], [9, 8])
        for _ in range(30):
            self.assertIsNone(walker.step())
        self.assertEqual(walker.frames(), [("f", 0)] * 31)
        self.assertEqual([walker.told(0, "x"), walker.told(1, "x"), walker.told(30, "y")], [9, 1, 2])

    def test_a_function_that_calls_by_a_wait_of_another_chain(self):
        marks = [NOWHERE, ((("f", 0), ("f", 0)), [[box(0)] * 4, [box(1)] * 4]), NOWHERE]
        walker = on([([], ("call", "g", (num(7),), 1)), ([], ("wait", 1, 2)), ([], ("back", num(3)))], [5, 6],
                    [([], ("go", 1)), ([], ("back", box(0)))], marks)
        self.assertEqual(len(walker.frames()), 1)
        walker.step()
        self.assertEqual(walker.frames(), [("f", 0), ("f", 0), ("g", 0)])
        self.assertEqual([walker.told(0, "w"), walker.told(1, "w"), walker.told(2, "a")], [5, 6, 7])
        self.assertEqual([mate[0] for mate in walker.mates(1)], [0] * 4 + [1] * 4)
        self.assertEqual(walker.mates(2), [(2, "a", box(0)), (2, "b", box(1))])
        walker.step()
        walker.step()
        self.assertEqual(walker.frames(), [("f", 0)])
        self.assertEqual(walker.told(0, "y"), 7)
        with self.assertRaises(NoName):
            walker.told(1, "x")


class MadeUpTest(unittest.TestCase):
    def test_as_the_plain_walk(self):
        rng = random.Random(23)
        told = 0
        for _ in range(60):
            program = some_program(rng, most=5)
            code, table = some_code(rng, program)
            args = some_args(rng, program)
            with Unchanged(self, program, code, table, args):
                plain, walker = TextWalker(program, args), CodeWalker(program, code, table, args)
                for _ in range(80):
                    self.assertEqual(walker.frames(), plain.frames())
                    for level, frame in enumerate(plain.frames()):
                        for mate, name, place in walker.mates(level):
                            if mate == level:
                                self.assertEqual(walker.place(level, name), place)
                                self.assertIn(walker.told(level, name), (None, plain.told(level, name)))
                                self.assertIs(walker.told(level, name) is None, place is None)
                                told += 1
                    self.assertEqual((walker.sent(), walker.answer(), walker.ended(), walker.contents),
                                     (plain.sent(), plain.answer(), plain.ended(), plain.contents))
                    if plain.ended():
                        break
                    self.assertEqual(walker.step(), plain.step())
        self.assertGreater(told, 10000)


if __name__ == "__main__":
    unittest.main()
