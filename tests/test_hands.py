"""Setting values by hand, in the plain walk and on code."""

import random
import unittest

from stopglass.codewalk import CodeWalker
from stopglass.errors import Gone, GlassError, NoName, NotBox, Shared, TooLong
from stopglass.hands import hanging, put_by_hand
from stopglass.maker import make
from stopglass.texts import read
from stopglass.walkers import TextWalker

from tests.helper import EDGES, Unchanged, all_names, leaves_of, some_args, some_code, some_program


def box(k):
    return ("box", k)


def num(v):
    return ("num", v)


def seen(walker):
    """All that a walker tells, its frames' names among it."""
    told = [(level, name, walker.told(level, name)) for level, frame in enumerate(walker.frames())
            for name in walker.flows.names_in[frame[0]]]
    places = [walker.mates(level) for level in range(len(walker.frames()))] if isinstance(walker, CodeWalker) else []
    fields = [walker.field(record, name) for record in range(4) for name in "fg"]
    return walker.frames(), told, places, fields, walker.sent(), walker.ended(), walker.answer()


# The walk waits in main's own frame, whose chain is of main and mid, while far's chain is of far and leaf.
PROGRAM = read("in leaf p q\nr = p\nback r\nfn far x y\nz = call leaf x y\nback z\nin mid d b\ne = call far d b\nback e\n"
               "fn main a b c\nc = call mid a b\nback c")
TWO = ("+", box(1), ("*", box(2), box(1)))
MAIN = ("main", 0), ("mid", 0)
CODE = [
    ("leaf", [([], ("back", num(0)))]),
    ("far", [([], ("go", 1)), ([], ("back", num(0)))]),
    ("mid", [([], ("back", num(0)))]),
    ("main", [([], ("call", "far", (box(0), box(1)), 1)), ([], ("wait", 5, 2)), ([], ("back", box(5)))]),
]


def standing(main, mid, far, leaf):
    """A walker on code with these places: of a, b, c; of d, b, e; of x, y, z; of p, q, r."""
    table = [
        ("leaf", [((("leaf", 0),), [[None] * 3])]),
        ("far", [((("far", 0),), [[None] * 3]), ((("far", 0), ("leaf", 0)), [list(far), list(leaf)])]),
        ("mid", [((("mid", 0),), [[None] * 3])]),
        ("main", [(MAIN[:1], [[None] * 3]), (MAIN, [list(main), list(mid)]), (MAIN[:1], [[None] * 3])]),
    ]
    walker = CodeWalker(PROGRAM, CODE, table, [10, 20, 30])
    walker.step()
    walker.step()
    return walker


NONE = (None, None, None)


class OnCodeTest(unittest.TestCase):
    def refused(self, walker, level, name, error, others=None):
        ahead = seen(walker)
        boxes = [dict(frame.boxes) for frame in walker.stack]
        with self.assertRaises(error) as caught:
            put_by_hand(walker, level, name, 77)
        self.assertIs(type(caught.exception), error)
        self.assertIsInstance(caught.exception, GlassError)
        if error is Shared:
            self.assertEqual(caught.exception.others, others)
            self.assertIs(type(caught.exception.others), list)
            self.assertTrue(all(type(other) is tuple for other in caught.exception.others))
        self.assertEqual(seen(walker), ahead)
        self.assertEqual([frame.boxes for frame in walker.stack], boxes)

    def hang(self, walker, level, name, others):
        ahead = seen(walker)
        found = hanging(walker, level, name)
        self.assertEqual(found, others)
        self.assertIs(type(found), list)
        found.append("changed")
        self.assertEqual(hanging(walker, level, name), others)
        self.assertEqual(seen(walker), ahead)

    def test_a_box_that_no_other_name_hangs_on(self):
        walker = standing((box(0), box(1), box(2)), (box(3), box(4), box(5)), (box(0), box(1), box(2)),
                          (box(3), box(4), box(5)))
        number = 100
        for level, names in enumerate(("abc", "dbe", "xyz", "pqr")):
            for name in names:
                ahead = dict([((one[0], one[1]), one[2]) for one in seen(walker)[1]])
                self.hang(walker, level, name, [])
                self.assertIs(put_by_hand(walker, level, name, number), True)
                ahead[level, name] = number
                self.assertEqual(dict([((one[0], one[1]), one[2]) for one in seen(walker)[1]]), ahead)
                number += 1

    def test_edges(self):
        walker = standing((box(0), None, None), NONE, (box(127), None, None), NONE)
        for number in EDGES:
            for level, name in ((0, "a"), (2, "x")):
                self.assertIs(put_by_hand(walker, level, name, number), True)
                self.assertEqual(walker.told(level, name), number)

    def test_gone(self):
        walker = standing((box(0), None, None), NONE, NONE, (None, box(1), None))
        for level, name in ((0, "b"), (0, "c"), (1, "d"), (1, "b"), (2, "x"), (3, "p"), (3, "r")):
            self.refused(walker, level, name, Gone)
            self.hang(walker, level, name, [])

    def test_no_box(self):
        walker = standing((num(5), box(1), ("+", box(2), num(0))), (num(0), box(7), TWO), NONE, NONE)
        for level, name in ((0, "a"), (0, "c"), (1, "d"), (1, "e")):
            self.refused(walker, level, name, NotBox)
            self.hang(walker, level, name, [])

    def test_shared_with_the_same_place(self):
        walker = standing((box(0), box(0), None), NONE, (box(3), None, box(3)), NONE)
        self.refused(walker, 0, "a", Shared, [(0, "b")])
        self.refused(walker, 0, "b", Shared, [(0, "a")])
        self.refused(walker, 2, "x", Shared, [(2, "z")])
        self.hang(walker, 2, "z", [(2, "x")])

    def test_shared_by_level_and_in_the_order_of_the_names(self):
        # The names of mid are d, b and e, in this order.
        walker = standing((box(1), box(1), TWO), (TWO, box(1), ("-", num(4), box(1))), (box(1), box(1), box(1)), NONE)
        everything = [(0, "a"), (0, "b"), (0, "c"), (1, "d"), (1, "b"), (1, "e")]
        for level, name in ((0, "a"), (0, "b"), (1, "b")):
            others = [other for other in everything if other != (level, name)]
            self.refused(walker, level, name, Shared, others)
            self.hang(walker, level, name, others)
        self.refused(walker, 2, "y", Shared, [(2, "x"), (2, "z")])

    def test_levels_of_all_frames(self):
        walker = standing(NONE, NONE, (box(1), None, TWO), (num(1), TWO, box(1)))
        self.refused(walker, 2, "x", Shared, [(2, "z"), (3, "q"), (3, "r")])
        self.refused(walker, 3, "r", Shared, [(2, "x"), (2, "z"), (3, "q")])

    def test_one_text_of_two_levels_is_two_names(self):
        walker = standing((None, box(4), None), (None, box(4), None), NONE, NONE)
        self.refused(walker, 0, "b", Shared, [(1, "b")])
        self.refused(walker, 1, "b", Shared, [(0, "b")])

    def test_another_own_frame_has_boxes_of_its_own(self):
        walker = standing((box(1), None, None), NONE, (box(1), None, None), NONE)
        self.assertIs(put_by_hand(walker, 0, "a", 5), True)
        self.assertEqual((walker.told(0, "a"), walker.told(2, "x")), (5, 20))
        self.assertIs(put_by_hand(walker, 2, "x", 6), True)
        self.assertEqual((walker.told(0, "a"), walker.told(2, "x")), (5, 6))

    def test_other_boxes_do_not_share(self):
        walker = standing((box(1), box(11), ("+", num(1), box(2))), NONE, NONE, NONE)
        self.assertIs(put_by_hand(walker, 0, "a", 5), True)
        self.assertEqual(walker.told(0, "a"), 5)

    def test_a_box_that_hangs_on_itself_alone(self):
        # Only the place of another name is asked for, however often this one's box is written.
        walker = standing((box(1), num(1), None), NONE, NONE, NONE)
        self.hang(walker, 0, "a", [])
        self.assertIs(put_by_hand(walker, 0, "a", 9), True)

    def test_no_name(self):
        walker = standing((box(0), None, num(1)), NONE, NONE, (box(1), box(1), None))
        for level, name in ((-1, "a"), (4, "a"), (100, "p"), (0, "d"), (0, "x"), (1, "a"), (2, "a"), (3, ""), (0, "zz")):
            self.refused(walker, level, name, NoName)
            self.assertRaises(NoName, hanging, walker, level, name)

    def test_behind_the_end(self):
        program = read("fn main a\nback a")
        code, table = make(program)
        for walker in (TextWalker(program, [1]), CodeWalker(program, code, table, [1])):
            walker.step()
            ahead = seen(walker)
            for level in (-1, 0, 1):
                self.assertRaises(NoName, put_by_hand, walker, level, "a", 5)
                self.assertRaises(NoName, hanging, walker, level, "a")
            self.assertEqual(seen(walker), ahead)

    def test_gone_ahead_of_the_begin_of_a_step(self):
        # What is made: b is gone behind the get, a is in its box, and c is what a is.
        program = read("fn main a\nb = get a f\nc = a\nd = a + 1\nout c\nback d")
        walker = CodeWalker(program, *make(program), [4])
        walker.step()
        self.refused(walker, 0, "b", Gone)
        self.refused(walker, 0, "d", NotBox)
        self.assertIs(put_by_hand(walker, 0, "a", 8), True)
        walker.step()
        self.refused(walker, 0, "a", Shared, [(0, "c")])
        walker.step()
        self.refused(walker, 0, "c", Shared, [(0, "a"), (0, "d")])
        self.assertEqual((walker.step(), walker.told(0, "d")), (("out", 8), 9))


class PlainTest(unittest.TestCase):
    def test_names_of_each_level(self):
        walker = TextWalker(PROGRAM, [10, 20, 30])
        for _ in range(4):
            walker.step()
        self.assertEqual([name for name, _ in walker.frames()], ["main", "mid", "far", "leaf"][:len(walker.frames())])
        number = 100
        for level, (function, _) in enumerate(walker.frames()):
            for name in {"main": "abc", "mid": "dbe", "far": "xyz", "leaf": "pqr"}[function]:
                self.assertEqual(hanging(walker, level, name), [])
                self.assertIs(put_by_hand(walker, level, name, number), True)
                self.assertEqual(walker.told(level, name), number)
                number += 1

    def test_no_name(self):
        walker = TextWalker(PROGRAM, [10, 20, 30])
        ahead = seen(walker)
        for level, name in ((-1, "a"), (1, "a"), (0, "d"), (0, ""), (0, "main")):
            self.assertRaises(NoName, put_by_hand, walker, level, name, 5)
            self.assertRaises(NoName, hanging, walker, level, name)
        self.assertEqual(seen(walker), ahead)

    def test_each_list_is_a_new_one(self):
        walker = TextWalker(PROGRAM, [10, 20, 30])
        hanging(walker, 0, "a").append(1)
        self.assertEqual(hanging(walker, 0, "a"), [])


class SomeHandsTest(unittest.TestCase):
    """On code that holds, values are set by hand where that is not refused, and the walk goes on as the text."""

    def others(self, walker, level, name):
        """Those of point 44, found by the table and the walker's own frames."""
        first = 0
        for frame in walker.stack:
            chain, views = walker.marks_of[frame.function][frame.spot]
            if first <= level < first + len(chain):
                break
            first += len(chain)
        place = walker.place(level, name)
        return [(first + k, other) for k, (function, _) in enumerate(chain)
                for other, one in zip(walker.flows.names_in[function], views[k])
                if (first + k, other) != (level, name) and one is not None and place in leaves_of(one)]

    def same(self, plain, coded):
        self.assertEqual(plain.frames(), coded.frames())
        self.assertEqual((plain.ended(), plain.answer(), plain.sent()), (coded.ended(), coded.answer(), coded.sent()))
        for level, frame in enumerate(plain.frames()):
            for name in plain.flows.names_in[frame[0]]:
                self.assertIn(coded.told(level, name), (None, plain.told(level, name)))

    def try_one(self, rng, plain, coded, counts):
        level = rng.randrange(len(plain.frames()))
        names = all_names([function for function in self.program if function[0] == plain.frames()[level][0]][0])
        if not names:
            return
        name, number = rng.choice(names), rng.choice(EDGES)
        place = coded.place(level, name)
        ahead = seen(coded)
        if place is None:
            expected, others = Gone, []
        elif place[0] != "box":
            expected, others = NotBox, []
        else:
            others = self.others(coded, level, name)
            expected = Shared if others else None
        self.assertEqual(hanging(coded, level, name), others)
        counts[expected] = counts.get(expected, 0) + 1
        if expected is None:
            self.assertIs(put_by_hand(coded, level, name, number), True)
            self.assertIs(put_by_hand(plain, level, name, number), True)
            self.assertEqual((plain.told(level, name), coded.told(level, name)), (number, number))
            return
        with self.assertRaises(expected) as caught:
            put_by_hand(coded, level, name, number)
        if expected is Shared:
            self.assertEqual(caught.exception.others, others)
        self.assertEqual(seen(coded), ahead)

    def walk(self, rng, made, counts):
        args = some_args(rng, self.program)
        plain, coded = TextWalker(self.program, args), CodeWalker(self.program, made[0], made[1], args)
        for _ in range(40):
            self.same(plain, coded)
            if plain.ended():
                break
            if rng.random() < 0.5:
                self.try_one(rng, plain, coded, counts)
                self.same(plain, coded)
            self.assertEqual(plain.step(), coded.step())

    def test_made_up_programs(self):
        counts = {}
        for seed in range(200):
            rng = random.Random(10000 + seed)
            self.program = some_program(rng, most=4, functions=4, folded=0.7)
            try:
                made = make(self.program)
            except TooLong:
                continue
            with Unchanged(self, self.program, made):
                self.walk(rng, made, counts)
        self.assertEqual(set(counts), {None, Gone, NotBox, Shared})
        self.assertGreater(min(counts.values()), 50)

    def test_made_up_code(self):
        counts = {}
        for seed in range(60):
            rng = random.Random(11000 + seed)
            self.program = some_program(rng)
            self.walk(rng, some_code(rng, self.program), counts)
        self.assertEqual(set(counts), {None, Gone, NotBox, Shared})


if __name__ == "__main__":
    unittest.main()
