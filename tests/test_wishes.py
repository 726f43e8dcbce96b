"""Wishes and conditions, on the plain walk and on code."""

import random
import unittest

from stopglass.codewalk import CodeWalker
from stopglass.errors import TooLong
from stopglass.maker import make
from stopglass.texts import read
from stopglass.walkers import TextWalker
from stopglass.wishes import condition, leave, over, reach, till, watch

from tests.helper import EDGES, SIGNS, all_names, sign_value, some_args, some_program

# The steps: 0 call of f, 1 call of g in place, 2 g's copy, 3 g's back, 4 f's out, 5 f's back, 6 put, 7 put, 8 new,
# 9 put, 10 back.
TEXT = """in g x
y = x + 1
back y
fn f x
z = call g x
out z
back z
fn main a
b = call f a
put 1 f b
put 1 f b
c = new
put c g a
back c"""


def walkers(text, args):
    """A plain walker, and one on code; each time new ones."""
    program = read(text)
    code, table = make(program)
    return [TextWalker(program, args), CodeWalker(program, code, table, args)]


def gone_on(text, args, steps):
    found = walkers(text, args)
    for walker in found:
        for _ in range(steps):
            walker.step()
    return found


class Wished(unittest.TestCase):
    def wished(self, steps, wish, expected, frames, text=TEXT, args=(5,)):
        """The wish is done when some steps are done; asked for are its answer and the frames behind it."""
        for walker in gone_on(text, list(args), steps):
            found = wish(walker)
            self.assertEqual((found, walker.frames()), (expected, frames), walker)
            self.assertEqual((type(found), type(found[0]), type(found[1])), (tuple, str, int))


class OverTest(Wished):
    def test_a_row_that_is_no_call(self):
        self.wished(6, over, ("there", 1), [("main", 2)])
        self.wished(2, over, ("there", 1), [("main", 0), ("f", 0), ("g", 1)])

    def test_a_call_and_all_within(self):
        self.wished(0, over, ("there", 6), [("main", 1)])
        self.wished(1, over, ("there", 3), [("main", 0), ("f", 1)])

    def test_a_back(self):
        self.wished(3, over, ("there", 1), [("main", 0), ("f", 1)])
        self.wished(5, over, ("there", 1), [("main", 1)])

    def test_the_last_step_allowed_and_one_too_late(self):
        self.wished(0, lambda walker: over(walker, 6), ("there", 6), [("main", 1)])
        self.wished(0, lambda walker: over(walker, 5), ("tired", 5), [("main", 0), ("f", 2)])
        self.wished(0, lambda walker: over(walker, 1), ("tired", 1), [("main", 0), ("f", 0)])
        self.wished(6, lambda walker: over(walker, 1), ("there", 1), [("main", 2)])
        self.wished(0, lambda walker: over(walker, most=5), ("tired", 5), [("main", 0), ("f", 2)])

    def test_the_step_that_ends_the_walk(self):
        self.wished(10, over, ("ended", 1), [])
        self.wished(10, lambda walker: over(walker, 1), ("ended", 1), [])

    def test_a_walker_that_has_ended(self):
        self.wished(11, over, ("ended", 0), [])
        self.wished(11, lambda walker: over(walker, 1), ("ended", 0), [])

    def test_calls_within_calls_of_itself(self):
        text = "fn main n\nif n\nm = n - 1\nr = call main m\nend\nback r"
        # The call; twice an if, an op and a call; an if; three backs.
        self.wished(2, over, ("there", 11), [("main", 4)], text, (3,))
        self.wished(0, over, ("there", 1), [("main", 1)], text, (3,))

    def test_two_hundred_steps_where_nothing_is_told(self):
        text = "fn f n\nwhile 1\nend\nback 0\nfn main n\nr = call f n\nback r"
        for wish in (over, leave):
            self.wished(0, wish, ("tired", 200), [("main", 0), ("f", 0)], text)
        self.wished(0, lambda walker: over(walker, 2000), ("tired", 2000), [("main", 0), ("f", 0)], text)
        self.wished(0, lambda walker: reach(walker, "main", 1), ("tired", 200), [("main", 0), ("f", 0)], text)
        self.wished(0, lambda walker: watch(walker, 1, "f"), ("tired", 200), [("main", 0), ("f", 0)], text)
        self.wished(0, lambda walker: till(walker, lambda one: False), ("tired", 200), [("main", 0), ("f", 0)], text)


class LeaveTest(Wished):
    def test_out_of_calls(self):
        self.wished(1, leave, ("there", 5), [("main", 1)])
        self.wished(2, leave, ("there", 2), [("main", 0), ("f", 1)])
        self.wished(3, leave, ("there", 1), [("main", 0), ("f", 1)])
        self.wished(4, leave, ("there", 2), [("main", 1)])

    def test_the_last_step_allowed_and_one_too_late(self):
        self.wished(1, lambda walker: leave(walker, 5), ("there", 5), [("main", 1)])
        self.wished(1, lambda walker: leave(walker, 4), ("tired", 4), [("main", 0), ("f", 2)])

    def test_out_of_the_outermost(self):
        self.wished(0, leave, ("ended", 11), [])
        self.wished(0, lambda walker: leave(walker, 11), ("ended", 11), [])
        self.wished(0, lambda walker: leave(walker, 10), ("tired", 10), [("main", 5)])
        self.wished(11, leave, ("ended", 0), [])

    def test_calls_within_calls_of_itself(self):
        text = "fn main n\nif n\nm = n - 1\nr = call main m\nend\nback r"
        # From the third call: its if, op and call, the if and back within, and its own back.
        self.wished(6, leave, ("there", 6), [("main", 2), ("main", 4)], text, (3,))


class ReachTest(Wished):
    def test_rows(self):
        self.wished(0, lambda walker: reach(walker, "g", 1), ("there", 3), [("main", 0), ("f", 0), ("g", 1)])
        self.wished(0, lambda walker: reach(walker, "f", 1), ("there", 4), [("main", 0), ("f", 1)])
        self.wished(0, lambda walker: reach(walker, "main", 5), ("there", 10), [("main", 5)])

    def test_only_the_innermost_frame(self):
        # f stands at its row 0 while g is the innermost one.
        self.wished(1, lambda walker: reach(walker, "f", 0), ("ended", 10), [])
        self.wished(1, lambda walker: reach(walker, "main", 0), ("ended", 10), [])

    def test_where_it_is_it_is_left_first(self):
        text = "fn main a\nwhile 1\nout a\nend\nback a"
        self.wished(0, lambda walker: reach(walker, "main", 0), ("there", 2), [("main", 0)], text)
        self.wished(0, lambda walker: reach(walker, "main", 0), ("ended", 11), [])

    def test_the_last_step_allowed_and_one_too_late(self):
        self.wished(0, lambda walker: reach(walker, "g", 1, 3), ("there", 3), [("main", 0), ("f", 0), ("g", 1)])
        self.wished(0, lambda walker: reach(walker, "g", 1, 2), ("tired", 2), [("main", 0), ("f", 0), ("g", 0)])
        self.wished(0, lambda walker: reach(walker, "g", 1, most=2), ("tired", 2), [("main", 0), ("f", 0), ("g", 0)])

    def test_rows_and_functions_that_are_not_there(self):
        for function, row in (("main", 6), ("main", -1), ("main", 1000), ("nowhere", 0), ("g", 2), ("", 0)):
            self.wished(0, lambda walker: reach(walker, function, row), ("ended", 11), [])
            self.wished(0, lambda walker: reach(walker, function, row, 4), ("tired", 4), [("main", 0), ("f", 1)])

    def test_else_and_end(self):
        text = "fn main a\nif a\nout 1\nelse\nout 2\nend\nback a"
        for row in (2, 4):
            self.wished(0, lambda walker: reach(walker, "main", row), ("ended", 3), [], text)

    def test_a_walker_that_has_ended(self):
        self.wished(11, lambda walker: reach(walker, "main", 0), ("ended", 0), [])


class WatchTest(Wished):
    def test_puts(self):
        self.wished(0, lambda walker: watch(walker, 1, "f"), ("there", 7), [("main", 2)])
        self.wished(0, lambda walker: watch(walker, 1, "g"), ("there", 10), [("main", 5)])

    def test_a_put_of_the_value_that_is_there(self):
        self.wished(7, lambda walker: watch(walker, 1, "f"), ("there", 1), [("main", 3)])

    def test_other_records_and_fields(self):
        for record, field in ((0, "f"), (2, "f"), (1, "h"), (5, "g")):
            self.wished(0, lambda walker: watch(walker, record, field), ("ended", 11), [])
        self.wished(8, lambda walker: watch(walker, 1, "f"), ("ended", 3), [])

    def test_the_last_step_allowed_and_one_too_late(self):
        self.wished(0, lambda walker: watch(walker, 1, "f", 7), ("there", 7), [("main", 2)])
        self.wished(0, lambda walker: watch(walker, 1, "f", 6), ("tired", 6), [("main", 1)])
        self.wished(0, lambda walker: watch(walker, 1, "f", most=6), ("tired", 6), [("main", 1)])

    def test_other_deeds(self):
        # A new of record 1 and an out of 1 are no puts.
        text = "fn main a\nb = new\nout 1\nc = get 1 f\nput 1 f 0\nback a"
        self.wished(0, lambda walker: watch(walker, 1, "f"), ("there", 4), [("main", 4)], text)

    def test_a_walker_that_has_ended(self):
        self.wished(11, lambda walker: watch(walker, 1, "f"), ("ended", 0), [])


class TillTest(Wished):
    def test_a_function_of_ones_own(self):
        self.wished(0, lambda walker: till(walker, lambda one: len(one.frames()) == 3), ("there", 2),
                    [("main", 0), ("f", 0), ("g", 0)])
        self.wished(0, lambda walker: till(walker, lambda one: one.sent() == [6]), ("there", 5), [("main", 0), ("f", 2)])
        self.wished(0, lambda walker: till(walker, lambda one: None if one.sent() else False), ("gone", 5),
                    [("main", 0), ("f", 2)])
        self.wished(0, lambda walker: till(walker, lambda one: False), ("ended", 11), [])

    def test_the_walker_itself_is_asked_after_each_step(self):
        for walker in walkers(TEXT, [5]):
            asked = []
            self.assertEqual(till(walker, lambda one: asked.append((one is walker, one.frames())) or False, 3), ("tired", 3))
            self.assertEqual(asked, [(True, [("main", 0), ("f", 0)]), (True, [("main", 0), ("f", 0), ("g", 0)]),
                                     (True, [("main", 0), ("f", 0), ("g", 1)])])

    def test_it_is_not_asked_ahead_of_the_first_step(self):
        self.wished(0, lambda walker: till(walker, lambda one: True), ("there", 1), [("main", 0), ("f", 0)])
        self.wished(0, lambda walker: till(walker, lambda one: None), ("gone", 1), [("main", 0), ("f", 0)])

    def test_the_last_step_allowed_and_one_too_late(self):
        for told, word in ((True, "there"), (None, "gone")):
            wish = lambda one: told if one.sent() else False
            self.wished(0, lambda walker: till(walker, wish, 5), (word, 5), [("main", 0), ("f", 2)])
            self.wished(0, lambda walker: till(walker, wish, 4), ("tired", 4), [("main", 0), ("f", 1)])
            self.wished(0, lambda walker: till(walker, wish, most=4), ("tired", 4), [("main", 0), ("f", 1)])

    def test_the_step_that_ends_the_walk(self):
        self.wished(0, lambda walker: till(walker, lambda one: one.ended()), ("there", 11), [])
        self.wished(0, lambda walker: till(walker, lambda one: None if one.ended() else False), ("gone", 11), [])
        self.wished(0, lambda walker: till(walker, lambda one: one.ended(), 11), ("there", 11), [])
        self.wished(10, lambda walker: till(walker, lambda one: False, 1), ("ended", 1), [])

    def test_a_walker_that_has_ended(self):
        for told in (True, False, None):
            self.wished(11, lambda walker: till(walker, lambda one: told), ("ended", 0), [])

    def test_a_condition(self):
        text = "fn main n\nwhile n\ns = s + n\nn = n - 1\nend\nback s"
        # s is 0, then 5, 9, 12, 14, 15, each three steps behind the one ahead.
        for number, steps in ((5, 2), (9, 5), (12, 8), (14, 11), (15, 14)):
            asked = condition("main", "s", "=", number)
            self.wished(0, lambda walker: till(walker, asked), ("there", steps), [("main", 2)], text)
        self.wished(0, lambda walker: till(walker, condition("main", "s", "=", 16)), ("ended", 17), [], text)
        self.wished(0, lambda walker: till(walker, condition("main", "n", "<", 1)), ("there", 15), [("main", 0)], text)

    def test_a_condition_that_comes_upon_a_name_that_is_gone(self):
        text = "fn main a\nout a\nb = get a f\nout a\nback a"
        plain, coded = walkers(text, [3])
        wish = condition("main", "b", "=", 0)
        self.assertEqual([till(plain, wish), till(coded, wish)], [("there", 1), ("there", 1)])
        self.assertEqual([till(plain, wish), till(coded, wish)], [("there", 1), ("gone", 1)])
        plain, coded = walkers(text, [3])
        wish = condition("main", "b", "=", 9)
        self.assertEqual([till(plain, wish), till(coded, wish)], [("ended", 4), ("gone", 2)])
        self.assertEqual(coded.frames(), [("main", 2)])


class ConditionTest(unittest.TestCase):
    def test_every_sign(self):
        program = read("fn main a\nback a")
        code, table = make(program)
        for sign in SIGNS:
            for one in EDGES:
                for other in EDGES:
                    asked = condition("main", "a", sign, other)
                    for walker in (TextWalker(program, [one]), CodeWalker(program, code, table, [one])):
                        self.assertIs(asked(walker), sign_value(sign, one, other) != 0, (sign, one, other))

    def test_the_names_value_is_the_first(self):
        for walker in walkers("fn main a\nback a", [3]):
            self.assertIs(condition("main", "a", "<", 4)(walker), True)
            self.assertIs(condition("main", "a", "<", 3)(walker), False)
            self.assertIs(condition("main", "a", "/", 4)(walker), False)
            self.assertIs(condition("main", "a", "-", 3)(walker), False)

    def test_another_function_innermost(self):
        for walker in gone_on(TEXT, [5], 1):
            self.assertIs(condition("main", "a", "=", 5)(walker), False)
            self.assertIs(condition("f", "x", "=", 5)(walker), True)
            walker.step()
            self.assertIs(condition("f", "x", "=", 5)(walker), False)
            self.assertIs(condition("g", "x", "=", 5)(walker), True)
            self.assertIs(condition("g", "y", "=", 0)(walker), True)

    def test_the_innermost_of_two_frames_of_one_function(self):
        for walker in gone_on("fn main n\nif n\nm = n - 1\nr = call main m\nend\nback r", [3], 3):
            self.assertEqual(walker.frames(), [("main", 2), ("main", 0)])
            self.assertIs(condition("main", "n", "=", 2)(walker), True)
            self.assertIs(condition("main", "n", "=", 3)(walker), False)

    def test_a_name_that_is_gone(self):
        plain, coded = gone_on("fn main a\nb = get a f\nout a\nback a", [3], 1)
        self.assertIs(condition("main", "b", "=", 0)(plain), True)
        for sign in SIGNS:
            self.assertIs(condition("main", "b", sign, 0)(coded), None)

    def test_a_walker_that_has_ended(self):
        for walker in gone_on(TEXT, [5], 11):
            self.assertTrue(walker.ended())
            for function in ("main", "f", "g"):
                self.assertIs(condition(function, "x" if function != "main" else "a", "=", 0)(walker), False)

    def test_one_condition_asked_of_many(self):
        asked = condition("main", "a", "<", 4)
        found = [asked(walker) for number in (3, 4, 0, 9) for walker in walkers("fn main a\nback a", [number])]
        self.assertEqual(found, [True, True, False, False, True, True, False, False])

    def test_asking_changes_nothing(self):
        for walker in gone_on(TEXT, [5], 2):
            ahead = walker.frames(), walker.told(0, "a"), walker.sent(), walker.ended()
            condition("g", "x", "+", 1)(walker)
            self.assertEqual((walker.frames(), walker.told(0, "a"), walker.sent(), walker.ended()), ahead)


class SomeWishesTest(unittest.TestCase):
    """Wishes on made-up programs: the plain walk is asked stop by stop, and the code is stopped where the text is."""

    def expected(self, walker, most, is_there):
        steps = 0
        if walker.ended():
            return ("ended", 0)
        while True:
            deed = walker.step()
            steps += 1
            told = is_there(deed)
            if told or told is None:
                return ("there" if told else "gone", steps)
            if walker.ended():
                return ("ended", steps)
            if steps == most:
                return ("tired", steps)

    def some_wish(self, rng, program):
        """A wish of one walker and of how many steps at most, and what it waits for in another walker."""
        kind = rng.choice(("over", "leave", "reach", "watch", "till"))
        function = rng.choice(program)
        row, record, field = rng.randrange(len(function[3])), rng.choice((0, 1, 2, 3)), rng.choice("fg")
        if kind in ("over", "leave"):
            less = kind == "leave"
            return (lambda one, most: (leave if less else over)(one, most),
                    lambda one, count: lambda deed: not one.ended() and len(one.frames()) <= count - less)
        if kind == "reach":
            return (lambda one, most: reach(one, function[0], row, most),
                    lambda one, count: lambda deed: one.frames()[-1:] == [(function[0], row)])
        if kind == "watch":
            return (lambda one, most: watch(one, record, field, most),
                    lambda one, count: lambda deed: bool(deed) and deed[:-1] == ("put", record, field))
        return (lambda one, most: till(one, lambda two: len(two.sent()) % 3 == 2, most),
                lambda one, count: lambda deed: len(one.sent()) % 3 == 2)

    def test_made_up_programs(self):
        words = {}
        for seed in range(200):
            rng = random.Random(8000 + seed)
            program = some_program(rng, most=4, functions=4, folded=0.7)
            try:
                code, table = make(program)
            except TooLong:
                continue
            args = some_args(rng, program)
            plain, other = TextWalker(program, args), TextWalker(program, args)
            coded = CodeWalker(program, code, table, args)
            for _ in range(6):
                wish, waits_for = self.some_wish(rng, program)
                most = rng.choice((1, 2, 3, 5, 8, 20))
                expected = self.expected(other, most, waits_for(other, len(other.frames())))
                self.assertEqual((wish(plain, most), wish(coded, most)), (expected, expected))
                self.assertEqual((plain.frames(), coded.frames()), (other.frames(), other.frames()))
                words[expected[0]] = words.get(expected[0], 0) + 1
        self.assertGreater(min(words.get(word, 0) for word in ("there", "ended", "tired")), 50)

    def test_conditions(self):
        words = {}
        for seed in range(250):
            rng = random.Random(9000 + seed)
            program = some_program(rng, most=5, functions=3, folded=0.7)
            try:
                code, table = make(program)
            except TooLong:
                continue
            args = some_args(rng, program)
            plain, coded = TextWalker(program, args), CodeWalker(program, code, table, args)
            function = rng.choice([function for function in program if all_names(function)] or [None])
            if function is None:
                continue
            asked = condition(function[0], rng.choice(all_names(function)), rng.choice(SIGNS), rng.choice(EDGES))
            found = till(coded, asked, 30)
            for _ in range(found[1] - 1):
                plain.step()
                self.assertIs(asked(plain), False)
            if found[1]:
                plain.step()
            self.assertEqual(plain.frames(), coded.frames())
            if found[0] != "gone":
                self.assertIs(asked(plain), found[0] == "there")
            words[found[0]] = words.get(found[0], 0) + 1
        self.assertGreater(min(words.get(word, 0) for word in ("there", "ended", "tired")), 20)
        self.assertGreater(words.get("gone", 0), 3)


if __name__ == "__main__":
    unittest.main()
