"""The whole: made of a text, windows on what was made, plain walkers, and what is refused."""

import copy
import random
import unittest

from stopglass.bits import pack, unpack
from stopglass.codewalk import CodeWalker
from stopglass.errors import BadBits, BadCall, BadNest, BadRow, GlassError, NoFunction, TooLong, TwiceNamed, Untrue
from stopglass.glass import made, plain, window
from stopglass.hands import put_by_hand
from stopglass.holds import holds
from stopglass.maker import make
from stopglass.texts import read, write
from stopglass.walkers import TextWalker
from stopglass.wishes import leave, over

from tests.helper import EDGES, Unchanged, some_args, some_code, some_program

TEXT = """in sq n
m = n * n
back m
fn far a
out a
b = new
put b f a
back b
fn main a
s = 0
while a
if a
t = call sq a
else
t = 7
end
r = call far t
q = get r f
s = s + q
a = a - 1
end
back s"""

FOLDED = "in f x\n" + "x = x + 1\n" * 59 + "back x\n"
LONG = FOLDED + "fn main a\n" + "a = call f a\n" * 4 + "back a"
# Each refusal of reading and of order, with its fields; the first that is due is told.
REFUSED = (
    ("", BadRow, {"at": 0}),
    ("back 0", BadRow, {"at": 0}),
    ("fn main\nback 0\n", BadRow, {"at": 2}),
    ("fn main\nback  0", BadRow, {"at": 1}),
    ("fn main\nend\nback 00", BadRow, {"at": 2}),
    ("fn main\nback 0\nfn main\nbad", BadRow, {"at": 3}),
    ("fn main\nback 0\nfn main\nback 1", TwiceNamed, {"word": "main"}),
    ("fn main a b a\nback 0", TwiceNamed, {"word": "a"}),
    ("fn main a a\nend\nback 0", TwiceNamed, {"word": "a"}),
    ("fn one\nend\nback 0\nfn main a a\nback 0", BadNest, {"function": "one", "at": 0}),
    ("fn main\nif 1\nback 0", BadNest, {"function": "main", "at": 2}),
    ("fn main", BadNest, {"function": "main", "at": 0}),
    ("fn main\na = call two\nelse\nback 0", BadNest, {"function": "main", "at": 1}),
    ("fn main\na = call two\nback 0", BadCall, {"function": "main", "at": 0}),
    ("fn main a\nout 1\na = call main\nback 0", BadCall, {"function": "main", "at": 1}),
)


class Refusing(unittest.TestCase):
    def refused(self, error, fields, call, *handed):
        with self.assertRaises(error) as caught, Unchanged(self, handed):
            call(*handed)
        self.assertIs(type(caught.exception), error)
        self.assertIsInstance(caught.exception, GlassError)
        for field, value in fields.items():
            self.assertEqual(getattr(caught.exception, field), value)


class MadeTest(Refusing):
    def test_what_is_told(self):
        found = made(TEXT)
        self.assertEqual((type(found), len(found)), (tuple, 3))
        program, code, bits = found
        self.assertEqual(program, read(TEXT))
        self.assertEqual(write(program), TEXT)
        self.assertEqual((code, unpack(program, bits)), make(program))
        self.assertEqual(bits, pack(program, make(program)[1]))
        self.assertEqual((type(program), type(code), type(bits)), (list, list, list))
        self.assertTrue(all(type(row) is str and set(row) == {"0", "1"} for row in bits))

    def test_refusals_of_reading_and_of_order(self):
        for text, error, fields in REFUSED:
            self.refused(error, fields, made, text)

    def test_too_long(self):
        self.refused(TooLong, {"function": "main"}, made, LONG)
        self.refused(TooLong, {"function": "main"}, made, LONG + "\nfn last\nback 0")
        two = LONG + "\nfn other a\n" + "a = call f a\n" * 4 + "back a"
        self.refused(TooLong, {"function": "main"}, made, two)

    def test_order_is_asked_ahead_of_length(self):
        self.refused(BadCall, {"function": "last", "at": 0}, made, LONG + "\nfn last\na = call main\nback 0")
        self.refused(BadRow, {"at": 69}, made, LONG + "\nfn last\nback 0\nno row")

    def test_the_longest(self):
        text = FOLDED + "fn main a\n" + "a = call f a\n" * 3 + "a = a + 1\n" * 16 + "back a"
        program, code, bits = made(text)
        self.assertEqual([len(spots) for _, spots in code], [60, 200])
        walker = window(program, code, bits, [5])
        self.assertEqual(leave(walker), ("ended", 200))
        self.assertEqual(walker.answer(), 5 + 59 * 3 + 16)

    def test_what_was_told_is_the_askers_own(self):
        first = made(TEXT)
        kept = copy.deepcopy(first)
        program, code, bits = first
        for _, spots in code:
            for sets, _ in spots:
                sets.append("changed")
            spots.clear()
        program.clear()
        code.clear()
        bits.clear()
        self.assertEqual(made(TEXT), kept)


def changed_code(rng, code):
    """The code changed at one place."""
    code = copy.deepcopy(code)
    k = rng.randrange(len(code))
    name, spots = code[k]
    at = rng.randrange(len(spots))
    sets, act = spots[at]
    kind = rng.choice(("drop a set", "add a set", "act", "act", "swap", "drop", "box", "entry"))
    if kind == "drop a set" and sets:
        sets.pop(rng.randrange(len(sets)))
    elif kind == "add a set":
        sets.append((rng.randrange(4), rng.choice((("box", rng.randrange(3)), ("num", rng.choice(EDGES))))))
    elif kind == "act":
        place = rng.randrange(1, len(act))
        part = act[place]
        if isinstance(part, int):
            part = rng.choice((part + 1, part - 1, rng.randrange(len(spots)), None if act[0] in ("new", "wait") else 0))
            if part is None and place == len(act) - 1:
                part = 0
        elif isinstance(part, tuple):
            part = rng.choice((("box", rng.randrange(3)), ("num", rng.choice(EDGES)))) if act[0] != "call" else part[:-1]
        elif part is None:
            part = rng.randrange(4)
        else:
            part = rng.choice(("f", "g", "one", "two", "three"))
        spots[at] = (sets, act[:place] + (part,) + act[place + 1:])
    elif kind == "swap":
        other = rng.randrange(len(spots))
        spots[at], spots[other] = spots[other], spots[at]
    elif kind == "drop":
        spots.pop(at)
    elif kind == "box" and sets:
        sets[0] = (rng.randrange(5), sets[0][1])
    elif kind == "entry":
        code[k] = (rng.choice(("one", "two", "three")), spots)
    return code


class WindowTest(Refusing):
    PROGRAM, CODE, BITS = made(TEXT)

    def test_a_window(self):
        with Unchanged(self, self.PROGRAM, self.CODE, self.BITS):
            walker = window(self.PROGRAM, self.CODE, self.BITS, [3])
            self.assertIs(type(walker), CodeWalker)
            self.assertEqual(walker.frames(), [("main", 0)])
            self.assertEqual(walker.told(0, "a"), 3)
            while not walker.ended():
                walker.step()
            self.assertEqual((walker.answer(), walker.sent()), (14, [9, 4, 1]))

    def test_each_window_walks_by_itself(self):
        args = [2]
        one, other = (window(self.PROGRAM, self.CODE, self.BITS, args) for _ in range(2))
        over(one)
        put_by_hand(one, 0, "a", 9)
        self.assertEqual((other.frames(), other.told(0, "a")), ([("main", 0)], 2))
        self.assertEqual(args, [2])

    def test_bad_bits(self):
        for k in range(3):
            for bits in ("", self.BITS[k][:-1], self.BITS[k] + "0", self.BITS[k].replace("0", "2", 1)):
                rows = self.BITS[:k] + [bits] + self.BITS[k + 1:]
                self.refused(BadBits, {}, window, self.PROGRAM, self.CODE, rows, [3])
        for rows in ([], self.BITS[1:], self.BITS + [self.BITS[0]]):
            self.refused(BadBits, {}, window, self.PROGRAM, self.CODE, rows, [3])

    def untrue_codes(self):
        yield []
        yield self.CODE[1:]
        yield self.CODE[::-1]
        yield self.CODE[:2] + [("main", self.CODE[2][1][:-1])]
        yield self.CODE[:2] + [("main", [])]
        yield self.CODE[:2] + [("main", [([(0, ("num", 1))], self.CODE[2][1][0][1])] + self.CODE[2][1][1:])]
        yield [("sq", [([], ("go", 1)), ([], ("back", ("box", 0)))])] + self.CODE[1:]

    def test_untrue(self):
        for code in self.untrue_codes():
            self.refused(Untrue, {}, window, self.PROGRAM, code, self.BITS, [3])

    def test_bits_of_another_table(self):
        table = unpack(self.PROGRAM, self.BITS)
        table[2][1][0][1][0][0] = ("num", 3)
        self.refused(Untrue, {}, window, self.PROGRAM, self.CODE, pack(self.PROGRAM, table), [3])
        other = made(TEXT.replace("n * n", "n + n"))
        self.refused(Untrue, {}, window, self.PROGRAM, self.CODE, other[2], [3])
        self.refused(Untrue, {}, window, self.PROGRAM, other[1], self.BITS, [3])
        self.refused(Untrue, {}, window, other[0], self.CODE, self.BITS, [3])

    def test_bad_bits_are_told_ahead_of_untrue(self):
        for code in self.untrue_codes():
            for rows in ([], self.BITS[1:], self.BITS[:2] + [self.BITS[2] + "0"]):
                self.refused(BadBits, {}, window, self.PROGRAM, code, rows, [3])

    def test_a_table_with_more_gone_is_true_too(self):
        table = unpack(self.PROGRAM, self.BITS)
        chain, views = table[2][1][0]
        self.assertIsNotNone(views[0][3])
        views[0][3] = None
        walker = window(self.PROGRAM, self.CODE, pack(self.PROGRAM, table), [3])
        self.assertIs(walker.told(0, "r"), None)

    def test_what_is_done_behind_the_call(self):
        program, code, bits = made(TEXT)
        args = [3]
        walker = window(program, code, bits, args)
        for name, spots in code:
            for sets, act in spots:
                sets.append((0, ("num", 5)))
            spots.clear()
        args[0] = 8
        for one in (program, code, bits, args):
            one.clear()
        self.assertEqual(walker.told(0, "a"), 3)
        self.assertEqual(leave(walker), ("ended", 42))
        self.assertEqual((walker.answer(), walker.sent()), (14, [9, 4, 1]))


class PlainTest(Refusing):
    def test_a_plain_walker(self):
        args = [3]
        walker = plain(TEXT, args)
        self.assertIs(type(walker), TextWalker)
        args[0] = 7
        self.assertEqual((walker.frames(), walker.told(0, "a")), ([("main", 0)], 3))
        self.assertEqual(leave(walker), ("ended", 42))
        self.assertEqual((walker.answer(), walker.sent()), (14, [9, 4, 1]))

    def test_refusals_of_reading_and_of_order(self):
        for text, error, fields in REFUSED:
            self.refused(error, fields, plain, text, [])

    def test_no_text_has_no_functions_without_a_bad_row(self):
        # A text always has a row, so NoFunction is never due of one.
        self.assertRaises(BadRow, plain, "", [])
        self.assertFalse(issubclass(NoFunction, BadRow))

    def test_what_is_too_long_to_be_made_is_walked(self):
        walker = plain(LONG, [1])
        self.assertEqual(leave(walker, 2000), ("ended", 4 * 61 + 1))
        self.assertEqual(walker.answer(), 1 + 4 * 59)


class TellsWhatIsTrueTest(unittest.TestCase):
    """Bits or code changed at one place are refused, or tell still what is true."""

    def side_by_side(self, walker, text):
        for _ in range(40):
            self.assertEqual(walker.frames(), text.frames())
            self.assertEqual((walker.ended(), walker.answer(), walker.sent()), (text.ended(), text.answer(), text.sent()))
            for level, frame in enumerate(text.frames()):
                for name in text.flows.names_in[frame[0]]:
                    self.assertIn(walker.told(level, name), (None, text.told(level, name)))
            if text.ended():
                return
            self.assertEqual(walker.step(), text.step())

    def tried(self, rng, program, code, rows, counts):
        args = some_args(rng, program)
        try:
            walker = window(program, code, rows, args)
        except (BadBits, Untrue) as error:
            kind = type(error).__name__
            counts[kind] = counts.get(kind, 0) + 1
            return
        counts["true"] = counts.get("true", 0) + 1
        self.side_by_side(walker, TextWalker(program, args))

    def changed_bits(self, rng, rows):
        k = rng.randrange(len(rows))
        at = rng.randrange(len(rows[k]))
        flipped = rows[k][:at] + ("1" if rows[k][at] == "0" else "0") + rows[k][at + 1:]
        return rows[:k] + [flipped] + rows[k + 1:]

    def changed_table(self, rng, program, rows):
        table = unpack(program, rows)
        marks = rng.choice(table)[1]
        chain, views = rng.choice(marks)
        view = rng.choice(views)
        if view:
            view[rng.randrange(len(view))] = rng.choice((None, ("box", rng.randrange(3)), ("num", rng.choice((0, 1)))))
        return pack(program, table)

    def test_what_is_made(self):
        counts = {}
        for seed in range(100):
            rng = random.Random(15000 + seed)
            program = some_program(rng, most=4, functions=4, folded=0.7)
            try:
                program, code, rows = made(write(program))
            except TooLong:
                continue
            self.tried(rng, program, code, rows, counts)
            self.assertEqual(counts["true"], sum(counts.values()) - counts.get("BadBits", 0) - counts.get("Untrue", 0))
            for _ in range(12):
                self.tried(rng, program, code, self.changed_bits(rng, rows), counts)
                self.tried(rng, program, code, self.changed_table(rng, program, rows), counts)
                self.tried(rng, program, changed_code(rng, code), rows, counts)
        self.assertGreater(min(counts[kind] for kind in ("BadBits", "Untrue", "true")), 300)

    def test_all_flips_of_one_text(self):
        program, code, rows = made("in sq n\nm = n * n\nback m\nfn main a\nwhile a\nb = call sq a\nout b\na = a - 1\nend\n"
                                   "back b")
        rng, counts = random.Random(3), {}
        for k, bits in enumerate(rows):
            for at in range(len(bits)):
                flipped = bits[:at] + ("1" if bits[at] == "0" else "0") + bits[at + 1:]
                self.tried(rng, program, code, rows[:k] + [flipped] + rows[k + 1:], counts)
        self.assertEqual(set(counts), {"BadBits", "Untrue", "true"} & set(counts) | {"BadBits", "Untrue"})

    def test_other_code_that_holds(self):
        counts = {}
        for seed in range(30):
            rng = random.Random(16000 + seed)
            program = some_program(rng)
            code, table = some_code(rng, program)
            within = all(len(chain) <= 3 for _, marks in table for chain, _ in marks)
            self.assertTrue(within and holds(program, code, table))
            rows = pack(program, table)
            self.tried(rng, program, code, rows, counts)
            for _ in range(8):
                self.tried(rng, program, code, self.changed_bits(rng, rows), counts)
                self.tried(rng, program, code, self.changed_table(rng, program, rows), counts)
                self.tried(rng, program, changed_code(rng, code), rows, counts)
        self.assertGreater(min(counts[kind] for kind in ("BadBits", "Untrue", "true")), 50)


if __name__ == "__main__":
    unittest.main()
