"""The ways of rows: by hand, and against the document's words taken literally."""

import itertools
import unittest

from stopglass.flows import ways

COPY = ("copy", "x", "a")
IF = ("if", "a")
WHILE = ("while", "a")
ELSE = ("else",)
END = ("end",)
BACK = ("back", "x")


def is_in_order(rows):
    still = []
    for row in rows:
        if row in (IF, WHILE):
            still.append(row)
        elif row == END:
            if not still:
                return False
            still.pop()
        elif row == ELSE:
            if not still or still[-1] != IF:
                return False
            still[-1] = ELSE
    return not still and len(rows) > 0 and rows[-1] == BACK


def end_of(rows, k):
    depth = 1
    while depth > 0:
        k += 1
        depth += {"if": 1, "while": 1, "end": -1}.get(rows[k][0], 0)
    return k


def else_of(rows, k):
    depth = 1
    while depth > 0:
        k += 1
        if depth == 1 and rows[k][0] == "else":
            return k
        depth += {"if": 1, "while": 1, "end": -1}.get(rows[k][0], 0)
    return None


def begin_of(rows, end):
    return max(k for k in range(end) if rows[k][0] in ("if", "while") and end_of(rows, k) == end)


def first_behind(rows, k):
    kind = rows[k + 1][0]
    if kind == "else":
        # The end that closes the if is also the first end that closes what is open at its else.
        return first_behind(rows, end_of(rows, k + 1))
    if kind == "end":
        begin = begin_of(rows, k + 1)
        return begin if rows[begin][0] == "while" else first_behind(rows, k + 1)
    return k + 1


def literal_ways(rows):
    found = []
    for k, row in enumerate(rows):
        if row[0] in ("else", "end"):
            found.append(None)
        elif row[0] == "back":
            found.append(())
        elif row[0] == "while":
            found.append((first_behind(rows, k), first_behind(rows, end_of(rows, k))))
        elif row[0] == "if":
            other = else_of(rows, k)
            found.append((first_behind(rows, k), first_behind(rows, end_of(rows, k) if other is None else other)))
        else:
            found.append((first_behind(rows, k),))
    return found


class WaysTest(unittest.TestCase):
    def ways(self, rows, expected):
        told = ways(tuple(rows))
        self.assertEqual(told, expected)
        self.assertIs(type(told), list)
        for way in told:
            self.assertTrue(way is None or type(way) is tuple)
            for place in way or ():
                self.assertIs(type(place), int)

    def test_a_back_alone(self):
        self.ways([BACK], [()])
        self.ways([BACK, BACK], [(), ()])

    def test_each_plain_kind(self):
        plain = [COPY, ("op", "x", "+", "a", 1), ("new", "x"), ("get", "x", "a", "f"), ("put", "a", "f", 1),
                 ("call", "x", "g", ()), ("out", "a")]
        for row in plain:
            self.ways([row, BACK], [(1,), ()])
        self.ways(plain + [BACK], [(k + 1,) for k in range(len(plain))] + [()])

    def test_if(self):
        self.ways([IF, COPY, END, BACK], [(1, 3), (3,), None, ()])
        self.ways([IF, COPY, ELSE, COPY, END, BACK], [(1, 3), (5,), None, (5,), None, ()])

    def test_while(self):
        self.ways([WHILE, COPY, END, BACK], [(1, 3), (0,), None, ()])
        self.ways([COPY, WHILE, COPY, COPY, END, BACK], [(1,), (2, 5), (3,), (1,), None, ()])

    def test_empty_bodies(self):
        self.ways([IF, END, BACK], [(2, 2), None, ()])
        self.ways([IF, ELSE, END, BACK], [(3, 3), None, None, ()])
        self.ways([IF, COPY, ELSE, END, BACK], [(1, 4), (4,), None, None, ()])
        self.ways([IF, ELSE, COPY, END, BACK], [(4, 2), None, (4,), None, ()])
        self.ways([WHILE, END, BACK], [(0, 2), None, ()])

    def test_one_straight_behind_the_other(self):
        self.ways([IF, END, IF, END, WHILE, END, BACK], [(2, 2), None, (4, 4), None, (4, 6), None, ()])
        self.ways([WHILE, COPY, END, WHILE, COPY, END, BACK], [(1, 3), (0,), None, (4, 6), (3,), None, ()])

    def test_an_if_ends_a_whiles_body(self):
        self.ways([WHILE, IF, COPY, END, END, BACK], [(1, 5), (2, 0), (0,), None, None, ()])
        self.ways([WHILE, IF, COPY, ELSE, COPY, END, END, BACK],
                  [(1, 7), (2, 4), (0,), None, (0,), None, None, ()])
        self.ways([WHILE, IF, ELSE, END, END, BACK], [(1, 5), (0, 0), None, None, None, ()])

    def test_a_while_ends_a_whiles_body(self):
        self.ways([WHILE, WHILE, COPY, END, END, BACK], [(1, 5), (2, 0), (1,), None, None, ()])
        self.ways([WHILE, WHILE, END, END, BACK], [(1, 4), (1, 0), None, None, ()])

    def test_a_while_in_each_branch(self):
        self.ways([IF, WHILE, COPY, END, ELSE, WHILE, COPY, END, END, BACK],
                  [(1, 5), (2, 9), (1,), None, None, (6, 9), (5,), None, None, ()])

    def test_an_inner_else_is_not_the_outer_ones(self):
        self.ways([IF, IF, COPY, ELSE, COPY, END, END, BACK],
                  [(1, 7), (2, 4), (7,), None, (7,), None, None, ()])
        self.ways([IF, IF, COPY, END, ELSE, COPY, END, BACK],
                  [(1, 5), (2, 7), (7,), None, None, (7,), None, ()])

    def test_back_amid(self):
        self.ways([IF, BACK, END, BACK], [(1, 3), (), None, ()])
        self.ways([IF, BACK, ELSE, BACK, END, BACK], [(1, 3), (), None, (), None, ()])
        self.ways([WHILE, BACK, COPY, END, BACK], [(1, 4), (), (0,), None, ()])
        self.ways([BACK, COPY, BACK], [(), (2,), ()])

    def test_deep_ifs(self):
        for deep in (1, 29, 30, 40):
            rows = [IF] * deep + [COPY] + [END] * deep + [BACK]
            last = 2 * deep + 1
            self.ways(rows, [(k + 1, last) for k in range(deep)] + [(last,)] + [None] * deep + [()])

    def test_deep_whiles(self):
        for deep in (2, 29, 30, 40):
            rows = [WHILE] * deep + [COPY] + [END] * deep + [BACK]
            expected = [(1, 2 * deep + 1)] + [(k + 1, k - 1) for k in range(1, deep)]
            self.ways(rows, expected + [(deep - 1,)] + [None] * deep + [()])

    def test_deep_elses(self):
        for deep in (1, 19, 30):
            rows = [IF, ELSE] * deep + [END] * deep + [BACK]
            last = 3 * deep
            expected = []
            for k in range(deep):
                expected += [(last, 2 * k + 2 if k + 1 < deep else last), None]
            self.ways(rows, expected + [None] * deep + [()])

    def test_deep_mixed(self):
        for deep in range(1, 34):
            rows = []
            for k in range(deep):
                rows += [(IF, WHILE, COPY)[k % 3]]
            for k in reversed(range(deep)):
                if k % 3 == 0:
                    rows += [ELSE, END] if k % 2 else [END]
                elif k % 3 == 1:
                    rows += [END]
            rows.append(BACK)
            self.ways(rows, literal_ways(rows))

    def test_every_short_function_in_order(self):
        count = 0
        for length in range(7):
            for body in itertools.product((COPY, IF, WHILE, ELSE, END, BACK), repeat=length):
                rows = body + (BACK,)
                if is_in_order(rows):
                    count += 1
                    self.assertEqual(ways(rows), literal_ways(rows), rows)
        self.assertGreater(count, 1000)

    def test_every_nest_of_eight_and_ten_rows(self):
        for length in (8, 10):
            for body in itertools.product((IF, WHILE, ELSE, END), repeat=length):
                if body[-1] == END and body[0] in (IF, WHILE) and is_in_order(body + (BACK,)):
                    self.assertEqual(ways(body + (BACK,)), literal_ways(body + (BACK,)), body)

    def test_a_function_of_sixty_rows(self):
        rows = ([WHILE, IF, COPY, ELSE, WHILE, COPY, END, END, END] * 7)[:54] + [COPY] * 5 + [BACK]
        self.assertEqual(len(rows), 60)
        self.ways(rows, literal_ways(rows))

    def test_the_same_again_when_the_list_was_changed(self):
        rows = (IF, COPY, ELSE, COPY, END, BACK)
        told = ways(rows)
        told[0] = (9, 9)
        told.clear()
        self.ways(rows, [(1, 3), (5,), None, (5,), None, ()])
        self.ways([WHILE, END, BACK], [(0, 2), None, ()])
        self.ways(rows, [(1, 3), (5,), None, (5,), None, ()])
        self.assertEqual(rows, (IF, COPY, ELSE, COPY, END, BACK))


if __name__ == "__main__":
    unittest.main()
