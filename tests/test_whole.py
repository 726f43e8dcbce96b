"""What is made of a program walks as its text does, stop by stop."""

import random
import unittest

from stopglass.codewalk import CodeWalker
from stopglass.errors import Ended, NoName, TooLong
from stopglass.flows import ways
from stopglass.maker import make
from stopglass.texts import read
from stopglass.walkers import TextWalker

from tests.helper import EDGES, Nested, Unchanged, all_names, some_args, some_big_program, some_program


def read_by(row):
    where = {"copy": (2,), "op": (3, 4), "get": (2,), "put": (1, 3), "new": (), "call": ()}.get(row[0], (1,))
    atoms = [row[k] for k in where] + list(row[3] if row[0] == "call" else ())
    return {atom for atom in atoms if isinstance(atom, str)}


class ToBeRead:
    """Of each function, which names some way on through its rows reads ahead of setting them."""

    def __init__(self, program):
        self.functions = {function[0]: function for function in program}
        self.ways = {function[0]: ways(function[3]) for function in program}
        self.known = {}

    def at(self, name, k, inner):
        """The names; inner where the frame is not the innermost one, and stands at its call."""
        if (name, k, inner) not in self.known:
            self.known[name, k, inner] = {one for one in all_names(self.functions[name])
                                          if self.is_read(name, k, inner, one)}
        return self.known[name, k, inner]

    def is_read(self, name, k, inner, one):
        rows = self.functions[name][3]
        if inner:
            return rows[k][1] != one and self.is_read(name, self.ways[name][k][0], False, one)
        seen, waiting = set(), [k]
        while waiting:
            at = waiting.pop()
            if at in seen:
                continue
            seen.add(at)
            if one in read_by(rows[at]):
                return True
            if rows[at][0] not in ("copy", "op", "new", "get", "call") or rows[at][1] != one:
                waiting += self.ways[name][at]
        return False


class SideBySide(unittest.TestCase):
    def stop(self, program, to_read, walker, text):
        """Asks all that is to be the same at a stop; the number of names that are gone."""
        frames = walker.frames()
        self.assertEqual(frames, text.frames())
        self.assertEqual((walker.ended(), walker.answer()), (text.ended, text.answer))
        self.assertEqual(walker.sent(), text.out)
        gone = 0
        for level, (name, row) in enumerate(frames):
            needed = to_read.at(name, row, level < len(frames) - 1)
            for one, value in text.stack[level][2].items():
                told = walker.told(level, one)
                if told is None:
                    self.assertNotIn(one, needed, (program, frames, level))
                    gone += 1
                else:
                    self.assertEqual(told, value, (program, frames, level, one))
        return gone

    def walk(self, program, made, args, most):
        """Walks code and text side by side; the numbers of steps, of names asked for, and of those gone."""
        walker, text = CodeWalker(program, made[0], made[1], args), Nested(program, args)
        plain, to_read = TextWalker(program, args), ToBeRead(program)
        gone, steps = self.stop(program, to_read, walker, text), 0
        while steps < most and not text.ended:
            deed = text.step()
            self.assertEqual((walker.step(), plain.step()), (deed, deed))
            gone, steps = gone + self.stop(program, to_read, walker, text), steps + 1
        for record, name in list(text.fields) + [(record, "f") for record in (0, 1, 2)]:
            self.assertEqual(walker.field(record, name), text.fields.get((record, name), 0))
        if text.ended:
            self.assertRaises(Ended, walker.step)
            self.assertRaises(NoName, walker.told, 0, "a")
        return steps, gone


class WholeTest(SideBySide):
    def test_made_up_programs(self):
        steps, gone, ended, long = 0, 0, 0, 0
        for seed in range(250):
            rng = random.Random(6000 + seed)
            program = some_program(rng, most=rng.choice((3, 4, 6)), functions=4, folded=0.7)
            try:
                made = make(program)
            except TooLong:
                long += 1
                continue
            for _ in range(2):
                args = some_args(rng, program)
                with Unchanged(self, program, made, args):
                    done = self.walk(program, made, args, 60)
                steps, gone, ended = steps + done[0], gone + done[1], ended + (done[0] < 60)
        self.assertGreater(steps, 5000)
        self.assertGreater(gone, 100)
        self.assertGreater(ended, 100)
        self.assertLess(long, 100)

    def test_big_programs(self):
        steps = 0
        for seed in range(12):
            rng = random.Random(7000 + seed)
            program = some_big_program(rng)
            try:
                made = make(program)
            except TooLong:
                continue
            steps += self.walk(program, made, [rng.choice(EDGES) for _ in range(6)], 150)[0]
        self.assertGreater(steps, 300)

    def test_a_deep_walk(self):
        program = read("in dec n\nm = n - 1\nback m\nfn main n a\nif n\nm = call dec n\nr = call main m n\nr = r + n\n"
                       "else\nr = a\nend\nback r")
        steps, _ = self.walk(program, make(program), [40, 0], 2000)
        self.assertEqual(steps, 40 * 7 + 4 - 1)

    def test_a_long_loop(self):
        program = read("in add x y\nz = x + y\nback z\nfn main n\nwhile n\ns = call add s n\nn = n - 1\nend\nout s\nback s")
        made = make(program)
        steps, _ = self.walk(program, made, [390], 2000)
        walker = CodeWalker(program, made[0], made[1], [390])
        for _ in range(steps):
            walker.step()
        self.assertEqual((walker.ended(), walker.answer(), walker.sent()), (True, 390 * 391 // 2, [390 * 391 // 2]))


if __name__ == "__main__":
    unittest.main()
