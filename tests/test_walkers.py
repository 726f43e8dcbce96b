"""The values of signs, and the plain walk."""

import copy
import itertools
import random
import unittest

from stopglass.errors import Ended, GlassError, NoName
from stopglass.texts import read
from stopglass.walkers import TextWalker, Walker, value

from tests.helper import EDGES, SIGNS, Nested, Unchanged, all_names, sign_value, some_args, some_program

TOP = 2 ** 48 - 1


class ValueTest(unittest.TestCase):
    def told(self, sign, one, other, expected):
        found = value(sign, one, other)
        self.assertEqual(found, expected, (sign, one, other))
        self.assertIs(type(found), int, (sign, one, other))

    def test_by_hand(self):
        for sign, one, other, expected in [
            ("+", 2, 3, 5), ("+", TOP, 1, 0), ("+", TOP, TOP, TOP - 1), ("+", 0, 0, 0),
            ("-", 5, 3, 2), ("-", 3, 5, TOP - 1), ("-", 0, 1, TOP), ("-", 0, TOP, 1), ("-", 7, 7, 0),
            ("*", 6, 7, 42), ("*", TOP, TOP, 1), ("*", TOP, 2, TOP - 1), ("*", 2 ** 24, 2 ** 24, 0), ("*", TOP, 0, 0),
            ("/", 7, 2, 3), ("/", 6, 2, 3), ("/", 1, 2, 0), ("/", 0, 5, 0), ("/", 5, 0, 0), ("/", 0, 0, 0),
            ("/", TOP, 1, TOP), ("/", TOP, TOP, 1), ("/", TOP, 2, 2 ** 47 - 1), ("/", TOP - 1, TOP, 0),
            ("/", TOP, 3, TOP // 3), ("/", 2 ** 48 - 2, 2 ** 47 - 1, 2), ("/", TOP, 0, 0),
            ("<", 1, 2, 1), ("<", 2, 1, 0), ("<", 2, 2, 0), ("<", 0, TOP, 1), ("<", TOP, 0, 0),
            ("=", 2, 2, 1), ("=", 1, 2, 0), ("=", 0, 0, 1), ("=", TOP, TOP, 1), ("=", 0, TOP, 0),
            ("&", 12, 10, 8), ("&", TOP, 5, 5), ("&", 5, 2, 0),
            ("|", 12, 10, 14), ("|", TOP, 5, TOP), ("|", 0, 0, 0),
            ("^", 12, 10, 6), ("^", TOP, TOP, 0), ("^", TOP, 0, TOP),
        ]:
            self.told(sign, one, other, expected)

    def test_all_signs_at_the_edges(self):
        for sign, one, other in itertools.product(SIGNS, EDGES, EDGES):
            self.told(sign, one, other, sign_value(sign, one, other))

    def test_small_values(self):
        for sign, one, other in itertools.product(SIGNS, range(9), range(9)):
            self.told(sign, one, other, sign_value(sign, one, other))


def walked(text, args=(), most=500):
    """A walker at its end, and the deeds of all its steps."""
    walker, deeds = TextWalker(read(text), list(args)), []
    while not walker.ended() and len(deeds) < most:
        deeds.append(walker.step())
    return walker, deeds


class RowsTest(unittest.TestCase):
    def answers(self, text, args, expected):
        walker, _ = walked(text, args)
        self.assertIs(walker.ended(), True)
        self.assertEqual(walker.answer(), expected)
        self.assertIs(type(walker.answer()), int)
        return walker

    def test_copy(self):
        self.answers("fn f a\nb = a\na = 7\nback b", [5], 5)
        self.answers("fn f a\nb = 7\nback b", [5], 7)
        self.answers("fn f a\na = a\nback a", [5], 5)

    def test_op(self):
        for sign in SIGNS:
            for one, other in ((12, 10), (10, 12), (7, 7), (TOP, 2), (5, 0)):
                expected = sign_value(sign, one, other)
                self.answers(f"fn f a b\nc = a {sign} b\nback c", [one, other], expected)
                self.answers(f"fn f a b\na = a {sign} b\nback a", [one, other], expected)
                self.answers(f"fn f a b\nb = a {sign} b\nback b", [one, other], expected)
                self.answers(f"fn f\nc = {one} {sign} {other}\nback c", [], expected)
        self.answers("fn f a\na = a + a\nback a", [4], 8)

    def test_new(self):
        walker, deeds = walked("fn f\na = new\nb = new\na = new\nc = a * 100\nc = c + b\nback c")
        self.assertEqual(deeds, [("new", 1), ("new", 2), ("new", 3), None, None, None])
        self.assertEqual(walker.answer(), 302)
        self.assertEqual([type(deed[1]) for deed in deeds[:3]], [int] * 3)

    def test_records_are_counted_over_all_frames(self):
        walker, deeds = walked("fn g\na = new\nback a\nfn f\na = new\nb = call g\nc = call g\nd = new\nback d")
        self.assertEqual([deed for deed in deeds if deed], [("new", 1), ("new", 2), ("new", 3), ("new", 4)])
        self.assertEqual(walker.answer(), 4)

    def test_put_and_get(self):
        walker, deeds = walked("fn f a\nput a f 9\nput a g a\nb = get a f\nc = get a g\nput 0 f b\nback c", [TOP])
        self.assertEqual(deeds, [("put", TOP, "f", 9), ("put", TOP, "g", TOP), None, None, ("put", 0, "f", 9), None])
        self.assertEqual(walker.answer(), TOP)
        self.assertEqual([walker.field(TOP, "f"), walker.field(TOP, "g"), walker.field(0, "f")], [9, TOP, 9])
        self.assertEqual([walker.field(0, "g"), walker.field(1, "f"), walker.field(TOP, "h")], [0, 0, 0])
        self.assertIs(type(walker.field(5, "nothing")), int)

    def test_fields_of_any_value_begin_with_nought(self):
        for record in (0, 1, 77, TOP):
            self.answers("fn f a\nb = 5\nb = get a f\nback b", [record], 0)
        self.answers("fn f a\na = get a f\nback a", [5], 0)
        self.answers("fn f a\nput a f 1\nput a f 2\na = get a f\nback a", [5], 2)

    def test_names_and_fields_are_apart(self):
        self.answers("fn f a\nput a a 7\nb = get a a\nb = b * a\nback b", [3], 21)

    def test_a_field_is_read_ahead_of_its_record(self):
        walker, _ = walked("fn f\na = get 1 f\nput 1 f 6\nb = new\nc = get b f\nback c")
        self.assertEqual(walker.answer(), 6)

    def test_out(self):
        walker, deeds = walked("fn f a\nout a\nout 3\nout a\nback 0", [TOP])
        self.assertEqual(deeds, [("out", TOP), ("out", 3), ("out", TOP), None])
        self.assertEqual(walker.sent(), [TOP, 3, TOP])
        self.assertIs(type(walker.sent()), list)

    def test_if(self):
        text = "fn f a\nb = 1\nif a\nb = 2\nelse\nb = 3\nend\nback b"
        for number, expected in ((0, 3), (1, 2), (2, 2), (TOP, 2)):
            self.answers(text, [number], expected)
        for number, expected in ((0, 1), (5, 2)):
            self.answers("fn f a\nb = 1\nif a\nb = 2\nend\nback b", [number], expected)
        self.answers("fn f\nif 0\nback 1\nend\nif 7\nback 2\nend\nback 3", [], 2)

    def test_while(self):
        text = "fn f n\nwhile n\ns = s + n\nn = n - 1\nend\nback s"
        for number in (0, 1, 2, 10):
            self.answers(text, [number], number * (number + 1) // 2)
        self.answers("fn f\nwhile 0\nback 1\nend\nback 2", [], 2)

    def test_back_amid(self):
        self.answers("fn f a\nwhile 1\nif a\nback 7\nend\na = a + 1\nend\nback 0", [0], 7)
        self.answers("fn f a\nback a\nback 1", [6], 6)

    def test_call_and_back(self):
        text = "fn sub a b\nc = a - b\nback c\nfn f a b\nc = call sub b a\nback c"
        self.answers(text, [3, 10], 7)
        self.answers("fn f a\nif a\nb = a - 1\nb = call f b\nb = b + a\nback b\nend\nback 0", [20], 210)
        self.answers("fn g\nback 4\nfn f a\na = call g\nback a", [9], 4)
        self.answers("fn h a b c d e f\na = a * b\na = a - c\na = a * d\na = a - e\na = a * f\nback a\n"
                     "fn f\nx = call h 9 8 7 6 5 4\nback x", [], ((9 * 8 - 7) * 6 - 5) * 4)

    def test_the_last_function_begins(self):
        self.answers("fn f\nback 1\nfn g\nback 2", [], 2)
        self.answers("fn g\nback 2\nfn f\nback 1", [], 1)
        self.answers("fn f a\nback a\nin g a b\nback b", [7, 8], 8)

    def test_calls_of_later_functions(self):
        self.answers("fn odd n\nif n\nn = n - 1\nn = call even n\nback n\nend\nback 0\n"
                     "fn even n\nif n\nn = n - 1\nn = call odd n\nback n\nend\nback 1", [9], 0)


DEEP = "fn f n\nm = n + 100\nif n\nk = n - 1\nr = call f k\nr = r + m\nback r\nend\nback m"


class FramesTest(unittest.TestCase):
    def test_the_begin(self):
        walker = TextWalker(read("fn g a\nback a\nfn f a b\nc = d\nback c"), [4, 5])
        self.assertIs(walker.ended(), False)
        self.assertIsNone(walker.answer())
        self.assertEqual(walker.sent(), [])
        self.assertEqual(walker.frames(), [("f", 0)])
        self.assertEqual([walker.told(0, name) for name in "abcd"], [4, 5, 0, 0])
        self.assertEqual(walker.field(1, "f"), 0)

    def test_kinds(self):
        walker = TextWalker(read("fn f a\nback a"), [4])
        self.assertIsInstance(walker, Walker)
        self.assertIs(type(walker.frames()), list)
        self.assertIs(type(walker.frames()[0]), tuple)
        self.assertIs(type(walker.frames()[0][1]), int)
        self.assertIs(type(walker.told(0, "a")), int)
        self.assertTrue(issubclass(TextWalker, Walker))

    def test_row_by_row(self):
        walker = TextWalker(read("fn g a\nb = a + 1\nback b\nfn f a\nif a\na = call g a\nelse\nout 1\nend\n"
                                 "while a\na = 0\nend\nback a"), [4])
        told = []
        while not walker.ended():
            told.append((walker.frames(), walker.told(0, "a")))
            walker.step()
        self.assertEqual(told, [
            ([("f", 0)], 4), ([("f", 1)], 4), ([("f", 1), ("g", 0)], 4), ([("f", 1), ("g", 1)], 4), ([("f", 5)], 5),
            ([("f", 6)], 5), ([("f", 5)], 0), ([("f", 8)], 0)])
        self.assertEqual(walker.frames(), [])

    def test_a_frame_has_names_of_its_own(self):
        walker = TextWalker(read("fn g a b\nc = a\na = b\nback c\nfn f a b\nc = 9\nd = call g b a\nback d"), [1, 2])
        walker.step()
        walker.step()
        self.assertEqual([walker.told(1, name) for name in "abc"], [2, 1, 0])
        walker.step()
        walker.step()
        self.assertEqual([walker.told(1, name) for name in "abc"], [1, 1, 2])
        self.assertEqual([walker.told(0, name) for name in "abcd"], [1, 2, 9, 0])
        walker.step()
        self.assertEqual([walker.told(0, name) for name in "abcd"], [1, 2, 9, 2])

    def test_a_name_is_nought_again_in_each_new_frame(self):
        walker, _ = walked("fn g\nr = n\nn = 7\nback r\nfn f\na = call g\nb = call g\na = a + b\nback a")
        self.assertEqual(walker.answer(), 0)

    def test_names_shared_by_many_frames(self):
        walker = TextWalker(read(DEEP), [300])
        for _ in range(300 * 4 + 2):
            walker.step()
        self.assertEqual(walker.frames(), [("f", 3)] * 300 + [("f", 7)])
        for level in range(301):
            self.assertEqual(walker.told(level, "n"), 300 - level)
            self.assertEqual(walker.told(level, "m"), 400 - level)
            self.assertEqual(walker.told(level, "r"), 0)
        walker.step()
        self.assertEqual(len(walker.frames()), 300)
        self.assertEqual(walker.told(299, "r"), 100)
        for _ in range(600):
            walker.step()
        self.assertIs(walker.ended(), True)
        self.assertEqual(walker.answer(), sum(range(301)) + 301 * 100)

    def test_two_thousand_frames(self):
        walker = TextWalker(read("fn f n\nn = n + 1\nn = call f n\nback n"), [0])
        for _ in range(2000):
            walker.step()
        self.assertEqual(len(walker.frames()), 1001)
        self.assertEqual(walker.told(1000, "n"), 1000)

    def test_lists_told_are_the_askers_own(self):
        walker = TextWalker(read("fn f\nout 1\nout 2\nback 0"), [])
        walker.step()
        walker.frames().append(("g", 7))
        walker.frames().clear()
        walker.sent().append(5)
        told = walker.sent()
        walker.step()
        self.assertEqual(told, [1])
        self.assertEqual(walker.frames(), [("f", 2)])
        self.assertEqual(walker.sent(), [1, 2])

    def test_two_walkers_side_by_side(self):
        program = read("fn f a\nb = new\nput b f a\nc = get 1 f\nout c\nback b")
        one, other = TextWalker(program, [5]), TextWalker(program, [6])
        self.assertEqual([one.step(), one.step()], [("new", 1), ("put", 1, "f", 5)])
        self.assertEqual(other.field(1, "f"), 0)
        self.assertEqual([other.step(), other.step()], [("new", 1), ("put", 1, "f", 6)])
        one.step(), other.step()
        self.assertEqual((one.step(), other.step()), (("out", 5), ("out", 6)))
        self.assertEqual((one.sent(), other.sent()), ([5], [6]))
        one.step()
        self.assertEqual((one.ended(), other.ended()), (True, False))
        self.assertEqual((one.answer(), other.answer()), (1, None))


class HandedInTest(unittest.TestCase):
    def test_nothing_handed_in_is_changed(self):
        program, args = read(DEEP), [5]
        with Unchanged(self, program, args):
            walker = TextWalker(program, args)
            while not walker.ended():
                walker.fill(0, "n", 3)
                walker.step()

    def test_what_is_done_to_it_behind_changes_nothing(self):
        text = "fn g a\nback a\nfn f a b\nc = call g b\nc = c + a\nback c"
        program, args = read(text), [3, 4]
        walker = TextWalker(program, args)
        args[0] = 100
        args.clear()
        program[0] = ("g", False, ("z",), (("back", 77),))
        program.reverse()
        program.pop()
        walker.step()
        self.assertEqual(walker.frames(), [("f", 0), ("g", 0)])
        self.assertEqual(walker.told(1, "a"), 4)
        program.clear()
        walker.step()
        walker.step()
        self.assertEqual(walker.told(0, "a"), 3)
        self.assertEqual(walker.frames(), [("f", 2)])
        walker.step()
        self.assertEqual(walker.answer(), 7)


class RefusedTest(unittest.TestCase):
    def no_name(self, walker, level, name):
        ahead = self.state(walker)
        with self.assertRaises(NoName) as caught:
            walker.told(level, name)
        self.assertIs(type(caught.exception), NoName)
        with self.assertRaises(NoName):
            walker.fill(level, name, 5)
        self.assertEqual(self.state(walker), ahead)

    def state(self, walker):
        return (walker.frames(), [dict(frame.named) for frame in walker.stack], walker.sent(), walker.answer(),
                walker.ended(), walker.records, dict(walker.contents))

    def test_levels_that_are_not_there(self):
        walker = TextWalker(read(DEEP), [3])
        for level in (-1, -2, 1, 2, 100, -100, 2 ** 60):
            self.no_name(walker, level, "n")
        for _ in range(4):
            walker.step()
        self.assertEqual(len(walker.frames()), 2)
        self.assertEqual([walker.told(0, "n"), walker.told(1, "n")], [3, 2])
        for level in (-1, -2, -3, 2, 3):
            self.no_name(walker, level, "n")

    def test_names_of_no_such_frame(self):
        walker = TextWalker(read("fn g a x\nput a fld x\nback a\nfn f a y\nb = call g a y\nback b"), [3, 4])
        for name in ("x", "g", "f", "fld", "", "A", "zz", "call", "1"):
            self.no_name(walker, 0, name)
        walker.step()
        for name in ("y", "b", "fld", "g", "f"):
            self.no_name(walker, 1, name)
        self.no_name(walker, 0, "x")
        self.assertEqual([walker.told(1, "a"), walker.told(1, "x"), walker.told(0, "y")], [3, 4, 4])

    def test_behind_the_end(self):
        walker, _ = walked("fn f a\nput a f 8\nout a\nb = new\nback a", [5])
        for level in (-1, 0, 1):
            self.no_name(walker, level, "a")
            self.no_name(walker, level, "zz")
        ahead = self.state(walker)
        for _ in range(3):
            with self.assertRaises(Ended) as caught:
                walker.step()
            self.assertIs(type(caught.exception), Ended)
            self.assertIsInstance(caught.exception, GlassError)
        self.assertEqual(self.state(walker), ahead)
        self.assertEqual((walker.ended(), walker.answer(), walker.sent(), walker.frames()), (True, 5, [5], []))
        self.assertEqual((walker.field(5, "f"), walker.field(5, "g")), (8, 0))
        walker.sent().clear()
        self.assertEqual(walker.sent(), [5])

    def test_an_answer_of_nought(self):
        walker, _ = walked("fn f\nback 0")
        self.assertEqual(walker.answer(), 0)
        self.assertIsNotNone(walker.answer())


class FillTest(unittest.TestCase):
    def test_at_every_level(self):
        walker = TextWalker(read(DEEP), [3])
        while len(walker.frames()) < 4:
            walker.step()
        for level in range(4):
            self.assertIs(walker.fill(level, "m", 1000 * (level + 1)), True)
        self.assertEqual([walker.told(level, "m") for level in range(4)], [1000, 2000, 3000, 4000])
        self.assertEqual([walker.told(level, "n") for level in range(4)], [3, 2, 1, 0])
        walker.fill(3, "n", 0)
        walker.step()
        while not walker.ended():
            walker.step()
        self.assertEqual(walker.answer(), 1000 + 2000 + 3000 + 100)

    def test_the_walk_goes_on_with_it(self):
        walker = TextWalker(read("fn f a\nb = a + 1\nif b\nback b\nend\nback 77"), [3])
        self.assertIs(walker.fill(0, "a", TOP), True)
        self.assertEqual(walker.told(0, "a"), TOP)
        walker.step()
        self.assertEqual(walker.told(0, "b"), 0)
        walker.fill(0, "b", 6)
        walker.step()
        self.assertEqual(walker.frames(), [("f", 2)])
        walker.fill(0, "b", 0)
        walker.step()
        self.assertEqual(walker.answer(), 0)

    def test_the_edges(self):
        walker = TextWalker(read("fn f a\nback a"), [3])
        for number in (0, 1, TOP):
            self.assertIs(walker.fill(0, "a", number), True)
            self.assertEqual(walker.told(0, "a"), number)


class MadeUpTest(unittest.TestCase):
    def same(self, walker, nested, program):
        self.assertEqual(walker.frames(), nested.frames())
        self.assertIs(walker.ended(), nested.ended)
        self.assertEqual(walker.answer(), nested.answer)
        self.assertEqual(walker.sent(), nested.out)
        for (record, name), number in nested.fields.items():
            self.assertEqual(walker.field(record, name), number)
        functions = {function[0]: function for function in program}
        for level, (function, _, named) in list(enumerate(nested.stack))[-4:]:
            self.assertEqual({name: walker.told(level, name) for name in all_names(functions[function])}, named)

    def test_as_the_walk_told_a_second_time(self):
        rng = random.Random(17)
        ends = 0
        for _ in range(400):
            program = some_program(rng, most=5)
            args = some_args(rng, program)
            handed = copy.deepcopy((program, args))
            walker, nested = TextWalker(program, args), Nested(program, args)
            for _ in range(120):
                self.same(walker, nested, program)
                if walker.ended():
                    ends += 1
                    break
                if rng.random() < 0.05:
                    level = rng.randrange(len(nested.stack))
                    name, number = rng.choice(sorted(nested.stack[level][2]) or [None]), rng.choice(EDGES)
                    if name:
                        walker.fill(level, name, number)
                        nested.stack[level][2][name] = number
                self.assertEqual(walker.step(), nested.step())
            self.assertEqual((program, args), handed)
        self.assertGreater(ends, 100)


if __name__ == "__main__":
    unittest.main()
