"""Tables in bits: what is written, what is read, and what is refused."""

import copy
import random
import unittest

from stopglass.bits import number_bits, pack, place_bits, unpack
from stopglass.errors import BadBits, GlassError, TooLong
from stopglass.maker import make
from stopglass.texts import read

from tests.helper import EDGES, SIGNS, WIDE, Unchanged, all_names, leaves_of, some_code, some_program


def box(k):
    return ("box", k)


def num(v):
    return ("num", v)


def number(value):
    """Point 45 a second time."""
    octal = [int(figure) for figure in f"{value:o}"][::-1]
    return "".join(f"{k < len(octal) - 1:d}{figure:03b}" for k, figure in enumerate(octal))


def reckoning(one):
    if one[0] in ("box", "num"):
        return ("0" if one[0] == "box" else "10") + number(one[1])
    return "11" + format("+-*/<=&|^".index(one[0]), "04b") + reckoning(one[1]) + reckoning(one[2])


def packed(program, table):
    """Points 46 and 47 a second time, name by name."""
    order = [function[0] for function in program]
    names = {function[0]: all_names(function) for function in program}
    rows = []
    for _, marks in table:
        bits, ahead = number(len(marks)), {}
        for chain, views in marks:
            bits += number(len(chain)) + "".join(number(order.index(name)) + number(row) for name, row in chain)
            here = {(level, frame[0], name): place for level, frame in enumerate(chain)
                    for name, place in zip(names[frame[0]], views[level])}
            for key, place in here.items():
                if key in ahead and ahead[key] == place:
                    bits += "01"
                else:
                    bits += "00" if place is None else "1" + reckoning(place)
            ahead = here
        rows.append(bits)
    return rows


class NumbersTest(unittest.TestCase):
    def test_told_ones(self):
        for value, bits in ((0, "0000"), (1, "0001"), (5, "0101"), (7, "0111"), (8, "10000001"), (9, "10010001"),
                            (63, "11110111"), (64, "100010000001"), (511, "111111110111"), (512, "1000100010000001")):
            self.assertEqual(number_bits(value), bits)

    def test_the_highest(self):
        self.assertEqual(number_bits(WIDE - 1), "1111" * 15 + "0111")
        self.assertEqual(number_bits(2 ** 47), "1000" * 15 + "0100")
        self.assertEqual(number_bits(2 ** 45), "1000" * 15 + "0001")
        self.assertEqual(number_bits(2 ** 45 - 1), "1111" * 14 + "0111")

    def test_many(self):
        rng = random.Random(1)
        for value in [rng.randrange(2 ** rng.randint(1, 48)) for _ in range(500)] + list(range(600)) + list(EDGES):
            self.assertEqual(number_bits(value), number(value))
            self.assertIs(type(number_bits(value)), str)


class PlacesTest(unittest.TestCase):
    def test_told_ones(self):
        self.assertEqual(place_bits(None), "00")
        self.assertEqual(place_bits(box(5)), "100101")
        self.assertEqual(place_bits(box(127)), "10" + number(127))
        self.assertEqual(place_bits(num(8)), "11010000001")
        self.assertEqual(place_bits(num(0)), "1100000")
        self.assertEqual(place_bits(("+", box(0), num(1))), "1" + "110000" + "00000" + "100001")

    def test_signs(self):
        for k, sign in enumerate(SIGNS):
            self.assertEqual(place_bits((sign, box(1), box(2))), "111" + f"{k:04b}" + "00001" + "00010")
        self.assertEqual(place_bits(("^", num(1), num(2))), "1111000" + "100001" + "100010")

    def test_left_stands_ahead_of_right(self):
        inner = ("-", box(1), num(2))
        self.assertEqual(place_bits(("*", inner, box(3))), "1110010" + "110001" + "00001" + "100010" + "00011")
        self.assertEqual(place_bits(("*", box(3), inner)), "1110010" + "00011" + "110001" + "00001" + "100010")


# Names: of f x, y; of main a, b, c; of none no names.
PROGRAM = read("in f x\ny = x\nback y\nfn none\nback 0\nfn main a b\nif a\nc = call f a\nelse\nc = 5\nend\nback b")
F, N = [((("f", 0),), [[box(0), num(0)]])], [((("none", 0),), [[]])]


def table_of(marks):
    return [("f", F), ("none", N), ("main", marks)]


F_BITS = "0001" + "0001" + "0000" + "0000" + "100000" + "1100000"
N_BITS = "0001" + "0001" + "0001" + "0000"


def mark(row, *places):
    return ((("main", row),), [list(places)])


def inner(row, main, inner_places):
    return ((("main", 1), ("f", row)), [list(main), list(inner_places)])


class PackTest(unittest.TestCase):
    def packs(self, marks, bits):
        table = table_of(marks)
        with Unchanged(self, PROGRAM, table):
            found = pack(PROGRAM, table)
        self.assertEqual(found, [F_BITS, N_BITS, bits])
        self.assertEqual(found, packed(PROGRAM, table))
        self.assertEqual((type(found), type(found[2])), (list, str))
        with Unchanged(self, PROGRAM, found):
            again = unpack(PROGRAM, found)
        self.assertEqual(again, table)

    def test_the_first_mark_has_nothing_ahead(self):
        self.packs([mark(0, box(0), None, num(0))], "0001" + "0001" + "0010" + "0000" + "100000" + "00" + "1100000")

    def test_as_ahead(self):
        first = "0001" + "0010" + "0000" + "100000" + "00" + "1100000"
        second = "0001" + "0010" + "0001"
        self.packs([mark(0, box(0), None, num(0)), mark(1, box(0), None, num(0))], "0010" + first + second + "01" * 3)
        self.packs([mark(0, box(0), None, num(0)), mark(1, box(1), num(0), None)],
                   "0010" + first + second + "100001" + "1100000" + "00")
        self.packs([mark(0, box(0), None, num(0)), mark(1, None, box(0), num(1))],
                   "0010" + first + second + "00" + "100000" + "1100001")

    def test_ahead_is_the_spot_before_alone(self):
        first = "0001" + "0010" + "0000" + "100000" + "0000"
        self.packs([mark(0, box(0), None, None), mark(0, None, None, None), mark(0, box(0), None, None)],
                   "0011" + first + "000100100000" + "00" + "0101" + "000100100000" + "100000" + "0101")

    def test_written_alike_part_by_part(self):
        one = ("+", ("-", box(1), num(2)), num(3))
        other = ("+", box(1), ("-", num(2), num(3)))
        first = "0001" + "0010" + "0000" + "1" + reckoning(one) + "0000"
        self.packs([mark(0, one, None, None), mark(0, one, None, None)], "0010" + first + "000100100000" + "010101")
        self.packs([mark(0, one, None, None), mark(0, other, None, None)],
                   "0010" + first + "000100100000" + "1" + reckoning(other) + "0101")
        apart = ("+", num(1), num(2))
        self.packs([mark(0, apart, None, None), mark(0, num(3), None, None)],
                   "0010" + "000100100000" + "1" + reckoning(apart) + "0000" + "000100100000" + "1100011" + "0101")

    def test_another_level_and_the_same_level(self):
        main, places = (box(0), None, None), (box(0), None)
        head = "0010" + "0010" + "0001" + "0000"
        self.packs([mark(1, *main), inner(0, main, places), inner(1, main, places), mark(5, *main)],
                   "0100" + "0001" + "00100001" + "100000" + "0000"
                   + head + "0000" + "010101" + "100000" + "00"
                   + head + "0001" + "010101" + "0101"
                   + "0001" + "00100101" + "010101")

    def test_another_function_in_that_level(self):
        marks = [((("main", 0), ("f", 0)), [[None] * 3, [None] * 2]), ((("main", 0), ("main", 0)), [[None] * 3, [None] * 3]),
                 ((("f", 0),), [[None] * 2]), ((("none", 0), ("f", 1)), [[], [None] * 2]),
                 ((("main", 0), ("f", 1)), [[None] * 3, [None] * 2])]
        self.packs(marks, "0101" + "0010" + "00100000" + "00000000" + "000000" + "0000"
                   + "0010" + "00100000" + "00100000" + "010101" + "000000"
                   + "0001" + "00000000" + "0000"
                   + "0010" + "00010000" + "00000001" + "0000"
                   + "0010" + "00100000" + "00000001" + "000000" + "0101")

    def test_else_and_end_rows(self):
        for row in (2, 4):
            self.packs([mark(row, None, None, None)], "0001" + "0001" + "0010" + number(row) + "000000")

    def test_edges(self):
        nine = box(1)
        for k in range(7):
            nine = (SIGNS[k], nine, num(k))
        for place in (box(127), num(WIDE - 1), ("^", box(0), box(127)), nine):
            self.packs([mark(0, place, None, None)], "0001" + "000100100000" + "1" + reckoning(place) + "0000")

    def test_two_hundred_marks(self):
        self.packs([mark(0, None, None, None)] * 200,
                   number(200) + "000100100000" + "000000" + ("000100100000" + "010101") * 199)

    def test_three_frames(self):
        chain = (("main", 1), ("f", 0), ("none", 0))
        self.packs([(chain, [[box(9)] * 3, [None] * 2, []])] * 2,
                   "0010" + ("0011" + "00100001" + "00000000" + "00010000") + ("10" + number(9)) * 3 + "0000"
                   + ("0011" + "00100001" + "00000000" + "00010000") + "010101" + "0101")

    def test_what_is_told_is_the_askers_own(self):
        rows = pack(PROGRAM, table_of([mark(0, box(0), None, num(0))] * 2))
        first = unpack(PROGRAM, rows)
        kept = copy.deepcopy(first)
        for _, marks in first:
            for _, views in marks:
                for view in views:
                    view.append("changed")
                views.append("changed")
            marks.append("changed")
        first.append("changed")
        self.assertEqual(unpack(PROGRAM, rows), kept)

    def test_no_list_stands_at_two_places(self):
        rows = pack(PROGRAM, table_of([mark(0, box(0), None, num(0))] * 3))
        table = unpack(PROGRAM, rows)
        known = [id(marks) for _, marks in table] + [id(views) for _, marks in table for _, views in marks]
        known += [id(view) for _, marks in table for _, views in marks for view in views]
        self.assertEqual(len(set(known)), len(known))

    def test_kinds(self):
        table = unpack(PROGRAM, pack(PROGRAM, table_of([inner(0, [None] * 3, [box(1), num(2)])])))
        self.assertIs(type(table), list)
        for entry in table:
            self.assertEqual((type(entry), type(entry[0]), type(entry[1])), (tuple, str, list))
            for one in entry[1]:
                self.assertEqual((type(one), type(one[0]), type(one[1])), (tuple, tuple, list))
                self.assertTrue(all(type(frame) is tuple for frame in one[0]))
                self.assertTrue(all(type(view) is list for view in one[1]))


class Reader:
    """Point 48 a second time: a table, or None."""

    def __init__(self, program, bits):
        self.program, self.left = program, bits

    def cut(self, count):
        if len(self.left) < count:
            raise EOFError
        found, self.left = self.left[:count], self.left[count:]
        return found

    def number(self):
        groups = [self.cut(4)]
        while groups[-1][0] == "1":
            groups.append(self.cut(4))
        if len(groups) > 16 or len(groups) > 1 and groups[-1] == "0000":
            raise EOFError
        return int("".join(group[1:] for group in groups[::-1]), 2)

    def reckoning(self):
        if self.cut(1) == "0":
            found = box(self.number())
            if found[1] > 127:
                raise EOFError
            return found
        if self.cut(1) == "0":
            return num(self.number())
        sign = SIGNS[int(self.cut(4), 2):][:1] or self.cut(10 ** 9)
        return (sign[0], self.reckoning(), self.reckoning())

    def place(self, known, ahead):
        if self.cut(1) == "1":
            found = self.reckoning()
            if len(leaves_of(found)) > 8:
                raise EOFError
        elif self.cut(1) == "0":
            found = None
        else:
            return ahead if known else self.cut(10 ** 9)
        return found if not known or found != ahead else self.cut(10 ** 9)

    def marks(self):
        marks, ahead = [], {}
        count = self.number()
        if not 1 <= count <= 200:
            raise EOFError
        for _ in range(count):
            frames = self.number()
            if not 1 <= frames <= 3:
                raise EOFError
            chain, views, here = [], [], {}
            for _ in range(frames):
                function = self.program[self.number():][:1] or self.cut(10 ** 9)
                chain.append((function[0][0], self.number()))
                if chain[-1][1] >= len(function[0][3]):
                    raise EOFError
            for level, frame in enumerate(chain):
                function = [one for one in self.program if one[0] == frame[0]][0]
                keys = [(level, frame[0], name) for name in all_names(function)]
                views.append([here.setdefault(key, self.place(key in ahead, ahead.get(key))) for key in keys])
            marks.append((tuple(chain), views))
            ahead = here
        if self.left:
            raise EOFError
        return marks


def unpacked(program, rows):
    if len(rows) != len(program) or set("".join(rows)) - {"0", "1"}:
        return None
    try:
        return [(function[0], Reader(program, bits).marks()) for function, bits in zip(program, rows)]
    except EOFError:
        return None


class BadBitsTest(unittest.TestCase):
    ROWS = pack(PROGRAM, table_of([mark(1, box(0), None, ("*", num(1), box(9))),
                                   inner(0, (box(0), num(3), None), (num(8), box(1)))]))

    def refused(self, rows):
        self.assertIsNone(unpacked(PROGRAM, rows), rows)
        with self.assertRaises(BadBits) as caught, Unchanged(self, PROGRAM, rows):
            unpack(PROGRAM, rows)
        self.assertIsInstance(caught.exception, GlassError)

    def main(self, bits):
        self.refused([F_BITS, N_BITS, bits])

    def is_read(self, bits):
        self.assertEqual(pack(PROGRAM, unpack(PROGRAM, [F_BITS, N_BITS, bits])), [F_BITS, N_BITS, bits])

    def test_too_few_and_too_many_texts(self):
        for rows in ([], self.ROWS[:1], self.ROWS[:2], self.ROWS + [N_BITS], self.ROWS * 2, self.ROWS[1:], [""] * 4):
            self.refused(rows)

    def test_the_empty_text(self):
        for k in range(3):
            self.refused(self.ROWS[:k] + [""] + self.ROWS[k + 1:])

    def test_texts_of_other_functions(self):
        self.refused([self.ROWS[1], self.ROWS[0], self.ROWS[2] + "0"])

    def test_other_signs(self):
        for k in range(3):
            for sign in ("2", " ", "\n", "", "x", "O", "-", "+", "_", "\u0661", "\uff11"):
                for at in (0, 1, 4, 9, len(self.ROWS[k]) - 1, len(self.ROWS[k])):
                    text = self.ROWS[k][:at] + sign + self.ROWS[k][at + 1:]
                    if sign or at < len(self.ROWS[k]):
                        self.refused(self.ROWS[:k] + [text] + self.ROWS[k + 1:])

    def test_bits_cut_off_at_every_place(self):
        for k in range(3):
            for at in range(len(self.ROWS[k])):
                self.refused(self.ROWS[:k] + [self.ROWS[k][:at]] + self.ROWS[k + 1:])

    def test_bits_put_behind(self):
        for k in range(3):
            for more in ("0", "1", "00", "0000", "01", self.ROWS[k]):
                self.refused(self.ROWS[:k] + [self.ROWS[k] + more] + self.ROWS[k + 1:])

    def test_needless_groups(self):
        places = "000000"
        self.is_read("0001" + "0001" + "0010" + "0000" + places)
        self.main("10010000" + "0001" + "0010" + "0000" + places)
        self.main("0001" + "10010000" + "0010" + "0000" + places)
        self.main("0001" + "0001" + "10100000" + "0000" + places)
        self.main("0001" + "0001" + "0010" + "10000000" + places)
        self.main("0001" + "0001" + "0010" + "100010000000" + places)
        head = "0001" + "0001" + "0010" + "0000"
        for lead in ("10", "110"):
            self.is_read(head + lead + "0000" + "0000")
            self.is_read(head + lead + "10000001" + "0000")
            self.main(head + lead + "10000000" + "0000")
            self.main(head + lead + "11010000" + "0000")
            self.main(head + lead + "100000010000" + "0000")

    def test_sixteen_and_seventeen_groups(self):
        head = "0001" + "0001" + "0010" + "0000"
        self.is_read(head + "110" + "1000" * 15 + "0001" + "0000")
        self.is_read(head + "110" + "1111" * 15 + "0111" + "0000")
        self.main(head + "110" + "1000" * 16 + "0001" + "0000")
        self.main(head + "110" + "1111" * 16 + "0111" + "0000")
        self.main(head + "110" + "1000" * 16 + "0000" + "0000")
        self.main(head + "110" + "1000" * 2000 + "0001" + "0000")
        self.main("1000" * 16 + "0001")

    def test_no_marks_and_too_many(self):
        one = "000100100000"
        self.main("0000")
        self.main("0000" + one + "000000")
        self.is_read(number(200) + one + "000000" + (one + "010101") * 199)
        self.main(number(201) + one + "000000" + (one + "010101") * 200)
        self.main(number(WIDE - 1) + one + "000000" + (one + "010101") * 250)

    def test_no_frames_and_four(self):
        self.main("0001" + "0000")
        self.main("0001" + "0000" + "000000")
        self.is_read("0001" + "0011" + "00010000" * 3)
        self.main("0001" + "0100" + "00010000" * 4)
        self.main("0001" + number(8) + "00010000" * 8)

    def test_functions_and_rows_that_are_not_there(self):
        for function in (3, 4, 7, 8, WIDE - 1):
            self.main("0001" + "0001" + number(function) + "0000" + "000000")
        self.is_read("0001" + "0001" + "0010" + number(5) + "000000")
        for row in (6, 7, 8, 60, WIDE - 1):
            self.main("0001" + "0001" + "0010" + number(row) + "000000")
        self.main("0001" + "0001" + "0001" + "0001")

    def test_boxes_and_values(self):
        head = "0001" + "0001" + "0010" + "0000"
        self.is_read(head + "10" + number(127) + "0000")
        for value in (128, 129, 255, WIDE - 1):
            self.main(head + "10" + number(value) + "0000")
        self.is_read(head + "110" + number(WIDE - 1) + "0000")
        for value in (WIDE, WIDE + 1, WIDE * 8):
            self.main(head + "110" + number(value) + "0000")

    def test_signs_that_are_not_there(self):
        head = "0001" + "0001" + "0010" + "0000"
        for sign in range(16):
            bits = head + "111" + f"{sign:04b}" + "00000" + "00001" + "0000"
            if sign < 9:
                self.is_read(bits)
            else:
                self.main(bits)

    def test_eight_and_nine_leaves(self):
        head = "0001" + "0001" + "0010" + "0000"
        rng = random.Random(5)
        for count in (7, 8, 9, 10, 16):
            for _ in range(20):
                parts = [box(rng.randrange(128)) for _ in range(count)]
                while len(parts) > 1:
                    at = rng.randrange(len(parts) - 1)
                    parts[at:at + 2] = [(rng.choice(SIGNS), parts[at], parts[at + 1])]
                bits = head + "1" + reckoning(parts[0]) + "0000"
                if count <= 8:
                    self.is_read(bits)
                else:
                    self.main(bits)

    def test_bits_that_would_lead_ever_deeper(self):
        head = "0001" + "0001" + "0010" + "0000" + "1"
        self.refused([F_BITS, N_BITS, head + "110000" * 8])
        for bits in ("110000" * 20000, ("110000" + "00000") * 20000):
            self.assertRaises(BadBits, unpack, PROGRAM, [F_BITS, N_BITS, head + bits])

    def test_a_place_that_is_as_ahead_and_not_written_so(self):
        one = "000100100000"
        self.is_read("0010" + one + "100000" + "00" + "1100000" + one + "010101")
        self.main("0010" + one + "100000" + "00" + "1100000" + one + "100000" + "0101")
        self.main("0010" + one + "100000" + "00" + "1100000" + one + "01" + "00" + "01")
        self.main("0010" + one + "100000" + "00" + "1100000" + one + "0101" + "1100000")

    def test_a_place_written_so_where_nothing_is_ahead(self):
        one = "000100100000"
        for places in ("010000", "000100", "000001", "010101"):
            self.main("0001" + one + places)
        # Another function stands in that level of the mark before, or none at all.
        self.main("0010" + "0001" + "00000000" + "0000" + one + "010000")
        self.main("0010" + one + "000000" + "0010" + "00100001" + "00000000" + "010101" + "0100")
        self.is_read("0010" + one + "000000" + "0010" + "00100001" + "00000000" + "010101" + "0000")


class SomeBitsTest(unittest.TestCase):
    def some_reckoning(self, rng, leaves):
        if leaves == 1:
            return box(rng.choice((0, 1, 7, 8, 127))) if rng.random() < 0.6 else num(rng.choice(EDGES))
        first = rng.randint(1, leaves - 1)
        return (rng.choice(SIGNS), self.some_reckoning(rng, first), self.some_reckoning(rng, leaves - first))

    def some_table(self, rng, program):
        """Any table of the form, with places that often are as ahead."""
        table = []
        for function in program:
            marks = []
            known = [None, box(0), num(0)] + [self.some_reckoning(rng, rng.randint(1, 8)) for _ in range(3)]
            for _ in range(rng.randint(1, 6)):
                frames = [rng.choice(program) for _ in range(rng.randint(1, 3))]
                chain = tuple((frame[0], rng.randrange(len(frame[3]))) for frame in frames)
                marks.append((chain, [[rng.choice(known) for _ in all_names(frame)] for frame in frames]))
            table.append((function[0], marks))
        return table

    def changed(self, rng, rows):
        rows = list(rows)
        k = rng.randrange(len(rows))
        at = rng.randrange(len(rows[k]))
        kind = rng.choice(("flip", "flip", "drop", "add", "cut", "move"))
        if kind == "flip":
            rows[k] = rows[k][:at] + ("1" if rows[k][at] == "0" else "0") + rows[k][at + 1:]
        elif kind == "drop":
            rows[k] = rows[k][:at] + rows[k][at + rng.randint(1, 4):]
        elif kind == "add":
            rows[k] = rows[k][:at] + rng.choice(("0", "1", "0000", "1000")) + rows[k][at:]
        elif kind == "cut":
            rows[k] = rows[k][:at]
        else:
            rows[k] = rows[k][at:] + rows[k][:at]
        return rows

    def ask(self, program, table):
        with Unchanged(self, program, table):
            rows = pack(program, table)
        self.assertEqual(rows, packed(program, table))
        with Unchanged(self, program, rows):
            self.assertEqual(unpack(program, rows), table)
        return rows

    def test_what_is_made(self):
        depths = set()
        for seed in range(100):
            program = some_program(random.Random(12000 + seed), most=4, functions=4, folded=0.8)
            try:
                table = make(program)[1]
            except TooLong:
                continue
            self.ask(program, table)
            depths |= {len(chain) for _, marks in table for chain, _ in marks}
        self.assertEqual(depths, {1, 2, 3})

    def test_other_code_that_holds(self):
        for seed in range(30):
            rng = random.Random(13000 + seed)
            program = some_program(rng)
            self.ask(program, some_code(rng, program)[1])

    def test_any_table_and_its_bits_changed(self):
        read_still, refused = 0, 0
        for seed in range(100):
            rng = random.Random(14000 + seed)
            program = some_program(rng)
            rows = self.ask(program, self.some_table(rng, program))
            for _ in range(40):
                other = self.changed(rng, rows)
                expected = unpacked(program, other)
                if expected is None:
                    self.assertRaises(BadBits, unpack, program, other)
                    refused += 1
                else:
                    self.assertEqual(unpack(program, other), expected)
                    self.assertEqual(pack(program, expected), other)
                    read_still += 1
        self.assertGreater(read_still, 200)
        self.assertGreater(refused, 1000)


if __name__ == "__main__":
    unittest.main()
