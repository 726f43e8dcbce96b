"""What is made of a program: its acts, sets and places, by points 37 to 41."""

import copy
import itertools
import random
import unittest

from stopglass.errors import TooLong
from stopglass.holds import holds
from stopglass.homes import homes
from stopglass.maker import make
from stopglass.places import behind
from stopglass.plans import heads, needed, plan
from stopglass.texts import read

from tests.helper import Unchanged, all_names, leaves_of, some_big_program, some_program

OWN = ("box", -1)


def box(k):
    return ("box", k)


def num(v):
    return ("num", v)


def boxes_in(one):
    return {leaf[1] for leaf in leaves_of(one) if leaf[0] == "box"}


class Made:
    """One function's spots and marks, asked by the words of points 37 to 41."""

    def __init__(self, test, program, name, spots, marks):
        self.test, self.program, self.spots = test, program, spots
        self.functions = {function[0]: function for function in program}
        self.name, self.stations = name, plan(program, name)
        self.needs = [set(names) for names in needed(program, self.stations)]
        self.heads, self.homes = heads(self.stations), homes(program, self.stations)
        test.assertEqual((len(spots), len(marks)), (len(self.stations), len(self.stations)))
        self.places = [self.listed(k, mark) for k, mark in enumerate(marks)]

    def listed(self, k, mark):
        chain, views = mark
        self.test.assertEqual(chain, self.stations[k][0])
        self.test.assertEqual([len(view) for view in views], [len(self.names(frame)) for frame in chain])
        return {(level, name): place for level, frame in enumerate(chain)
                for name, place in zip(self.names(frame), views[level])}

    def names(self, frame):
        return all_names(self.functions[frame[0]])

    def row(self, chain):
        return self.functions[chain[-1][0]][3][chain[-1][1]]

    def behind(self, k, places):
        chain, wait, _ = self.stations[k]
        return behind(self.program, chain, wait, places)

    def filled(self, k):
        """B by point 38: None too where nothing is filled."""
        chain, wait, on = self.stations[k]
        row, name = self.row(chain), None
        if wait or row[0] in ("get", "new"):
            name = (len(chain) - 1, row[1])
        return self.homes[name] if name in (self.needs[on[0]] if on else ()) else None

    def act(self, k):
        chain, wait, on = self.stations[k]
        row, level = self.row(chain), len(chain) - 1
        place = lambda atom: self.places[k][level, atom] if isinstance(atom, str) else num(atom)
        if wait:
            return ("wait", self.filled(k), *on)
        if row[0] == "call" and self.stations[on[0]][1]:
            return ("call", row[2], tuple(place(atom) for atom in row[3]), *on)
        if row[0] == "back" and not level:
            return ("back", place(row[1]))
        if row[0] == "get" and self.filled(k) is not None:
            return ("get", place(row[2]), row[3], self.filled(k), *on)
        if row[0] == "new":
            return ("new", self.filled(k), *on)
        if row[0] == "put":
            return ("put", place(row[1]), row[2], place(row[3]), *on)
        if row[0] == "out":
            return ("out", place(row[1]), *on)
        if row[0] in ("if", "while"):
            return ("if", place(row[1]), *on)
        return ("go", *on)

    def ask_acts(self):
        for k, (_, act) in enumerate(self.spots):
            self.test.assertEqual(act, self.act(k))

    def ask_places(self):
        for k, places in enumerate(self.places):
            for name, place in places.items():
                if place is None:
                    self.test.assertNotIn(name, self.needs[k])
                else:
                    self.test.assertLessEqual(len(leaves_of(place)), 8)
                if self.heads[k] and name in self.needs[k]:
                    self.test.assertEqual(place, box(self.homes[name]))

    def must_stand_first(self, k, found, name):
        """For heads and for leaves."""
        on = self.stations[k][2]
        if found[name] == OWN:
            return False
        if found[name] != box(self.homes[name]) and any(self.heads[way] and name in self.needs[way] for way in on):
            return True
        return len(leaves_of(found[name])) > 8

    def ask_sets(self, k):
        sets, on = self.spots[k][0], self.stations[k][2]
        boxes = [pair[0] for pair in sets]
        self.test.assertEqual(boxes, sorted(set(boxes)))
        found = self.behind(k, self.places[k])
        wanted = {self.homes[name]: name for name in sorted(set().union(*[self.needs[way] for way in on]))}
        for number, one in sets:
            self.test.assertEqual(found[wanted[number]], one)
        standing = {self.homes[name]: found[name] for name in wanted.values() if self.must_stand_first(k, found, name)}
        self.test.assertLessEqual(standing.items(), dict(sets).items())
        self.test.assertTrue(all(len(leaves_of(one)) <= 8 or self.row(self.stations[k][0])[0] == "op"
                                 for one in standing.values()))

        def must(name):
            written = set(standing) | {self.filled(k)}
            return (found[name] != OWN and boxes_in(found[name]) & written
                    and found[name] not in standing.values())

        rest = set(boxes) - set(standing)
        while rest:
            due = [number for number in sorted(rest) if must(wanted[number])]
            self.test.assertNotEqual(due, [], "a set that need not stand")
            standing[due[0]] = found[wanted[due[0]]]
            rest.remove(due[0])
        self.test.assertEqual([name for name in wanted.values() if must(name)], [])
        if self.row(self.stations[k][0])[0] in ("copy", "op") and not any(self.heads[way] for way in on):
            given = (len(self.stations[k][0]) - 1, self.row(self.stations[k][0])[1])
            if len(leaves_of(found[given] or num(0))) <= 8 or given not in self.needs[on[0]]:
                self.test.assertEqual(sets, [])

    def brought(self, k, places):
        sets, filled = dict(self.spots[k][0]), self.filled(k)
        written = set(sets) | {filled}
        left = {}
        for name, one in self.behind(k, places).items():
            if one is None or one == OWN:
                left[name] = None if one is None or filled is None else box(filled)
            elif len(leaves_of(one)) <= 8 and not boxes_in(one) & written:
                left[name] = one
            else:
                same = [number for number in sets if sets[number] == one]
                left[name] = box(min(same)) if same else None
        return left

    def begun(self):
        found = {(0, name): num(0) for name in self.names((self.name, 0))}
        found.update({(0, param): box(k) for k, param in enumerate(self.functions[self.name][2])})
        return found

    def all_brought(self, table):
        """For each station what each way brings, the begin first."""
        found = [[] for _ in self.stations]
        found[0].append(self.begun())
        for k, places in enumerate(table):
            left = self.brought(k, places)
            for way in self.stations[k][2]:
                found[way].append(left)
        return found

    def is_kept_to(self, table):
        """Whether the table keeps to point 41 but for its last sentence."""
        for k, ways in enumerate(self.all_brought(table)):
            for name, place in table[k].items():
                if self.heads[k] and name in self.needs[k]:
                    expected = box(self.homes[name])
                else:
                    told = [left[name] for left in ways]
                    expected = told[0] if all(one == told[0] for one in told) else None
                if place != expected:
                    return False
        return True

    def some_table(self, gone):
        """The one table in which, of the names that heads don't need, just these may be gone for any reason."""
        table = [None] * len(self.stations)
        for k in range(len(self.stations)):
            left = self.begun() if k == 0 else None
            for other in range(k):
                if k and left is None and k in self.stations[other][2]:
                    left = self.brought(other, table[other])
            table[k] = {}
            for name, place in left.items():
                if self.heads[k] and name in self.needs[k]:
                    place = box(self.homes[name])
                table[k][name] = None if (k, name) in gone else place
        return table

    def ask_fewest_gone(self, most):
        """All tables that keep to point 41 are tried, where they are few enough; True where they were."""
        free = [(k, name) for k, places in enumerate(self.places) if self.heads[k]
                for name in places if name not in self.needs[k]]
        if len(free) > most:
            return False
        fitting = []
        for count in range(len(free) + 1):
            for gone in itertools.combinations(free, count):
                table = self.some_table(gone)
                if self.is_kept_to(table):
                    fitting.append((sum(list(places.values()).count(None) for places in table), table))
        least = min(count for count, _ in fitting)
        self.test.assertEqual([table for count, table in fitting if count == least][0], self.places)
        self.test.assertTrue(all(table == self.places for count, table in fitting if count == least))
        return len(fitting) > 1


class Asked(unittest.TestCase):
    def ask(self, program, most=0):
        """Asks all of 37 to 41 of what is made; True where tables with more gone were tried beside it."""
        with Unchanged(self, program):
            code, table = make(program)
        self.assertEqual([entry[0] for entry in code], [function[0] for function in program])
        self.assertEqual([entry[0] for entry in table], [function[0] for function in program])
        tried = False
        for (name, spots), (_, marks) in zip(code, table):
            made = Made(self, program, name, spots, marks)
            made.ask_acts()
            made.ask_places()
            for k in range(len(spots)):
                made.ask_sets(k)
            self.assertTrue(made.is_kept_to(made.places))
            tried = made.ask_fewest_gone(most) or tried
        self.assertIs(holds(program, code, table), True)
        return tried

    def made(self, text, spots, views, name="main"):
        """The spots, and for each the places of the frames one behind the other."""
        program = read(text)
        code, table = make(program)
        self.assertEqual(dict(code)[name], spots, text)
        found = [sum(places, []) for _, places in dict(table)[name]]
        self.assertEqual(found, views, text)
        self.ask(program, 6)


A, B, C, D = box(0), box(1), box(2), box(3)
A_1 = ("+", A, num(1))


class MadeTest(Asked):
    def test_a_back_alone(self):
        self.made("fn main\nback 7", [([], ("back", num(7)))], [[]])
        self.made("fn main a b\nback b", [([], ("back", B))], [[A, B]])

    def test_copies_and_ops_are_put_off(self):
        self.made("fn main a\nb = a + 1\nc = b\nout c\nback a", [
            ([], ("go", 1)), ([], ("go", 2)), ([], ("out", A_1, 3)), ([], ("back", A)),
        ], [[A, num(0), num(0)], [A, A_1, num(0)], [A, A_1, A_1], [A, A_1, A_1]])

    def test_nums_are_put_together(self):
        self.made("fn main\na = 2 + 3\na = a * b\nback a", [
            ([], ("go", 1)), ([], ("go", 2)), ([], ("back", num(0)))],
            [[num(0), num(0)], [num(5), num(0)], [num(0), num(0)]])

    def test_put_get_new_out(self):
        self.made("fn main a\nb = new\nput b f a\nc = get b f\nout c\nback b", [
            ([], ("new", 1, 1)), ([], ("put", B, "f", A, 2)), ([], ("get", B, "f", 0, 3)), ([], ("out", A, 4)),
            ([], ("back", B)),
        ], [[A, num(0), num(0)], [A, B, num(0)], [A, B, num(0)], [None, B, A], [None, B, A]])

    def test_get_of_what_is_not_needed(self):
        self.made("fn main a\nb = get a f\nback a", [([], ("go", 1)), ([], ("back", A))], [[A, num(0)], [A, None]])

    def test_new_of_what_is_not_needed(self):
        self.made("fn main a\na = new\nback 0", [([], ("new", None, 1)), ([], ("back", num(0)))], [[A], [None]])

    def test_waits(self):
        self.made("fn f x\nback x\nfn main a\nb = call f a\nc = call f 3\nback b", [
            ([], ("call", "f", (A,), 1)),
            ([], ("wait", 0, 2)),
            ([], ("call", "f", (num(3),), 3)),
            ([], ("wait", None, 4)),
            ([], ("back", A)),
        ], [[A, num(0), num(0)], [A, num(0), num(0)], [None, A, num(0)], [None, A, num(0)], [None, A, None]])

    def test_a_call_in_place(self):
        self.made("in f x\ny = x + 1\nback y\nfn main a\nb = call f a\nback b", [
            ([], ("go", 1)), ([], ("go", 2)), ([], ("go", 3)), ([], ("back", A_1)),
        ], [[A, num(0)], [A, num(0), A, num(0)], [A, num(0), A, A_1], [A, A_1]])

    def test_three_frames_in_place(self):
        self.made("in f x\nback x\nin g x\ny = call f x\nback y\nin main a\nb = call g a\nback b", [
            ([], ("go", 1)), ([], ("go", 2)), ([], ("go", 3)), ([], ("go", 4)), ([], ("back", A)),
        ], [[A, num(0)], [A, num(0), A, num(0)], [A, num(0), A, num(0), A], [A, num(0), A, A], [A, A]])

    def test_a_loop(self):
        self.made("fn main a\nwhile a\nb = b + a\na = a - 1\nend\nback b", [
            ([], ("if", A, 1, 2)),
            ([], ("go", 3)),
            ([], ("back", B)),
            ([(0, ("-", A, num(1))), (1, ("+", B, A))], ("go", 0)),
        ], [[A, B], [A, B], [A, B], [A, ("+", B, A)]])

    def test_an_if_with_a_head_behind_it(self):
        self.made("fn main a\nif a\nb = a + 1\nelse\nb = 5\nend\nback b", [
            ([], ("if", A, 1, 2)), ([(0, A_1)], ("go", 3)), ([(0, num(5))], ("go", 3)), ([], ("back", A)),
        ], [[A, num(0)], [A, num(0)], [A, num(0)], [None, A]])

    def test_a_head_that_is_straight_behind_the_if(self):
        # c is set for the head at the if itself, and told at the yes by its place, since the box that it hangs on stays.
        self.made("fn main a b\nc = a + 1\nif b\nc = 2\nend\nout a\nout b\nback c", [
            ([], ("go", 1)),
            ([(2, A_1)], ("if", B, 2, 3)),
            ([(2, num(2))], ("go", 3)),
            ([], ("out", A, 4)),
            ([], ("out", B, 5)),
            ([], ("back", C)),
        ], [[A, B, num(0)], [A, B, A_1], [A, B, A_1], [A, B, C], [A, B, C], [A, B, C]])


class SetsTest(Asked):
    def test_what_a_get_writes_over_is_saved(self):
        self.made("fn main a\nb = a + 1\na = get a f\nout b\nback a", [
            ([], ("go", 1)),
            ([(1, A_1)], ("get", A, "f", 0, 2)),
            ([], ("out", B, 3)),
            ([], ("back", A)),
        ], [[A, num(0)], [A, A_1], [A, B], [A, B]])

    def test_what_a_wait_writes_over_is_saved(self):
        self.made("fn f\nback 0\nfn main a\nb = a + 1\na = call f\nout b\nback a", [
            ([], ("go", 1)),
            ([], ("call", "f", (), 2)),
            ([(1, A_1)], ("wait", 0, 3)),
            ([], ("out", B, 4)),
            ([], ("back", A)),
        ], [[A, num(0)], [A, A_1], [A, A_1], [A, B], [A, B]])

    def test_what_a_new_writes_over_is_not_saved_where_it_is_not_needed(self):
        self.made("fn main a\nb = a + 1\na = new\nback a", [
            ([], ("go", 1)), ([], ("new", 0, 2)), ([], ("back", A))], [[A, num(0)], [A, A_1], [A, None]])

    def test_one_set_is_enough_for_two_names(self):
        program = read("fn main a\nb = a + 1\nc = b\na = new\nout b\nout c\nback a")
        code, table = make(program)
        sets = code[0][1][2][0]
        self.assertIn(sets, ([(1, A_1)], [(2, A_1)]))
        for k in (3, 4, 5):
            self.assertEqual(table[0][1][k][1], [[A, box(sets[0][0]), box(sets[0][0])]])
        self.ask(program, 6)

    def test_a_name_that_is_not_needed_is_told_by_the_lowest_box(self):
        # At the head b and c are set alike; d is what they are, and is not needed.
        text = "fn main a\nb = a + 1\nc = b\nd = b\n{}a = a - 1\nwhile a\na = a - 1\nend\nout b\nback c"
        views = dict(make(read(text.format("")))[1])["main"]
        self.assertEqual(views[5][1], [[A, B, C, B]])
        self.ask(read(text.format("")), 6)

    def test_sets_that_ask_for_other_sets(self):
        # The get writes over a, on which b hangs; b is saved in its home, on which c hangs, and so on.
        text = ("fn main a b c d\nd = c + 1\nc = b + 1\nb = a + 1\na = get a f\nout a\nout b\nout c\nback d")
        made = dict(make(read(text))[0])["main"]
        self.assertEqual(made[3], ([(1, A_1), (2, ("+", B, num(1))), (3, ("+", C, num(1)))], ("get", A, "f", 0, 4)))
        self.ask(read(text), 6)

    def test_two_names_that_change_their_boxes(self):
        self.made("fn main a b\nwhile a\nc = a\na = b\nb = c\nend\nback b", [
            ([], ("if", A, 1, 2)),
            ([], ("go", 3)),
            ([], ("back", B)),
            ([], ("go", 4)),
            ([(0, B), (1, A)], ("go", 0)),
        ], [[A, B, None], [A, B, None], [A, B, None], [A, B, A], [B, B, A]])

    def test_names_at_home_are_not_set(self):
        self.made("fn main a b\nwhile a\nout b\nend\nback b", [
            ([], ("if", A, 1, 2)), ([], ("out", B, 0)), ([], ("back", B))], [[A, B], [A, B], [A, B]])

    def test_eight_and_nine_leaves(self):
        def text(leaves):
            rows = "b = a + a\nb = b + b\nc = b\nb = b + b\n" + ("b = b + a\n" if leaves > 8 else "")
            return "fn main a\n" + rows + "out b\nback b"
        double = ("+", A, A)
        four = ("+", double, double)
        eight = ("+", four, four)
        self.assertEqual(dict(make(read(text(8)))[0])["main"], [
            ([], ("go", 1)), ([], ("go", 2)), ([], ("go", 3)), ([], ("go", 4)), ([], ("out", eight, 5)),
            ([], ("back", eight))])
        nine = ("+", eight, A)
        code, table = make(read(text(9)))
        self.assertEqual(code[0][1][4:], [
            ([(1, nine)], ("go", 5)), ([], ("out", B, 6)), ([], ("back", B))])
        self.assertEqual(table[0][1][4][1], [[A, eight, four]])
        self.assertEqual(table[0][1][5][1], [[A, B, four]])
        self.ask(read(text(8)), 6)
        self.ask(read(text(9)), 6)

    def test_nine_leaves_that_are_not_needed(self):
        text = "fn main a\nb = a + a\nb = b + b\nb = b + b\nb = b + a\nback a"
        code, table = make(read(text))
        self.assertTrue(all(sets == [] for sets, _ in code[0][1]))
        self.assertEqual(table[0][1][4][1], [[A, None]])
        self.ask(read(text), 6)

    def test_nine_leaves_at_a_head(self):
        text = "fn main a\nif a\nb = a + a\nb = b + b\nb = b + b\nb = b + a\nend\nback b"
        self.ask(read(text), 6)

    def test_nine_leaves_ask_for_another_set(self):
        # c and d hang on b's home; d is not needed.
        text = "fn main a b\nc = b + 1\nd = b\nb = a + a\nb = b + b\nb = b + b\nb = b + a\nout c\nback b"
        code, table = make(read(text))
        self.assertEqual([pair[0] for pair in code[0][1][5][0]], [1, 2])
        self.assertEqual(table[0][1][6][1], [[A, B, C, None]])
        self.ask(read(text), 6)

    def test_sixteen_leaves(self):
        text = "fn main a\nb = a + a\nb = b + b\nb = b + b\nb = b * b\nback b"
        spots = dict(make(read(text))[0])["main"]
        self.assertEqual([len(leaves_of(one)) for _, one in spots[3][0]], [16])
        self.ask(read(text), 6)


class NotNeededTest(Asked):
    def places(self, text, k, expected, name="main"):
        program = read(text)
        self.assertEqual(dict(make(program)[1])[name][k][1], expected, text)
        self.ask(program, 7)

    def test_a_param_that_is_never_read(self):
        self.places("fn main a b\nout a\nback a", 1, [[A, B]])

    def test_names_that_a_loop_leaves_alone(self):
        for rows, place in (("", num(0)), ("c = 7\n", num(7)), ("c = b\n", B), ("c = b + 1\n", ("+", B, num(1)))):
            count = len(rows.splitlines())
            self.places(f"fn main a b\n{rows}while a\nout b\na = a - 1\nend\nout c\nc = 0\nback b"
                        .replace("out c\n", ""), count, [[A, B, place]])

    def test_a_begin_that_is_a_head(self):
        self.places("fn main a b\nwhile a\na = a - 1\nend\nc = 1\nback c", 0, [[A, B, num(0)]])

    def test_a_loop_within_a_loop(self):
        self.places("fn main a b\nwhile a\nwhile b\nb = b - 1\nend\na = a - 1\nend\nc = 1\nback 0", 1, [[A, B, num(0)]])

    def test_all_ways_bring_the_same(self):
        self.places("fn main a\nif a\nb = 4\nelse\nb = 4\nend\nback 0", 3, [[A, num(4)]])
        self.places("fn main a\nif a\nb = a\nelse\nb = a\nend\nback 0", 3, [[A, A]])

    def test_two_ways_bring_unlike_ones(self):
        self.places("fn main a\nif a\nb = 4\nelse\nb = 5\nend\nback 0", 3, [[A, None]])
        self.places("fn main a\nwhile a\na = a - 1\nb = 1\nend\nback 0", 0, [[A, None]])

    def test_one_way_brings_it_gone(self):
        self.places("fn main a\nif a\nb = get a f\nend\nback 0", 2, [[A, None]])

    def test_gone_in_one_loop_is_gone_in_the_next(self):
        self.places("fn main a\nwhile a\nb = get a f\na = a - 1\nend\nc = b\nwhile c\nc = c - 1\nend\nback 0"
                    .replace("c = b\n", "c = a\n"), 4, [[None, None, A]])

    def test_what_is_carried_around_by_another_name(self):
        # c is read, so it is needed and at home; d is 0 at the begin, and else what c is.
        self.places("fn main a\nwhile a\nd = c\na = a - 1\nend\nback 0", 0, [[A, None, B]])
        self.places("fn main a\nwhile a\nd = c\na = a - 1\nend\nback 0", 3, [[A, B, B]])

    def test_gone_at_the_inner_loop_comes_around_to_the_outer_one(self):
        text = "fn main a b\nwhile a\nwhile b\nc = 1\nb = b - 1\nend\na = a - 1\nend\nback 0"
        for k in range(3):
            self.places(text, k, [[A, B, None]])
        text = "fn main a b d\nwhile d\nwhile a\nwhile b\nc = 1\nb = b - 1\nend\na = a - 1\nend\nd = d - 1\nend\nback 0"
        for k in range(5):
            self.places(text, k, [[A, B, C, None]])

    def test_an_op_of_names_that_are_not_needed_stays_the_same(self):
        # b = b * 1 of nums is the same around the loop; b = b + 1 is not. They are read, so needed; d is not.
        self.places("fn main a\nwhile a\nd = 3 * 4\na = a - 1\nend\nback 0", 0, [[A, None]])
        self.places("fn main a\nd = 12\nwhile a\nd = 3 * 4\na = a - 1\nend\nback 0", 1, [[A, num(12)]])


class WholeProgramsTest(Asked):
    def test_every_kind_of_row(self):
        self.ask(read("""fn far a
out a
b = new
put b f a
back b
in sq n
m = n * n
back m
in cube n
m = call sq n
m = m * n
back m
in quad n
m = call cube n
m = m * n
back m
fn main a
s = 0
while a
if a
t = call quad a
else
t = 7
end
r = call far t
q = get r f
s = s + q
w = new
u = get w f
t = call main w
a = a - 1
end
back s"""), 7)

    def test_made_up_programs(self):
        tried, depths = 0, set()
        for seed in range(250):
            rng = random.Random(4000 + seed)
            program = some_program(rng, most=rng.choice((3, 4, 6)), functions=4, folded=0.7)
            try:
                stations = [station for function in program for station in plan(program, function[0])]
            except TooLong:
                continue
            depths |= {len(station[0]) for station in stations}
            tried += self.ask(program, 5)
        self.assertEqual(depths, {1, 2, 3})
        self.assertGreater(tried, 15)

    def test_big_programs(self):
        asked = 0
        for seed in range(10):
            program = some_big_program(random.Random(5000 + seed))
            self.assertEqual(len(program), 12)
            self.assertEqual(max(len(all_names(function)) for function in program), 24)
            try:
                self.ask(program)
            except TooLong:
                continue
            asked += 1
        self.assertGreater(asked, 2)

    def test_two_hundred_stations(self):
        folded = "in f x\n" + "x = x + 1\n" * 59 + "back x\n"
        text = folded + "fn main a\n" + "a = call f a\n" * 3 + "a = a + 1\n" * 16 + "back a"
        self.ask(read(text))


class RefusedTest(Asked):
    FOLDED = "in f x\n" + "x = x + 1\n" * 59 + "back x\n"
    LONG = " a\n" + "a = call f a\n" * 4 + "back a\n"

    def test_too_long(self):
        program = read((self.FOLDED + "fn main" + self.LONG).strip())
        with self.assertRaises(TooLong) as caught, Unchanged(self, program):
            make(program)
        self.assertEqual(caught.exception.function, "main")

    def test_the_first_in_order(self):
        for names in itertools.permutations(("one", "two", "last")):
            program = read((self.FOLDED + "fn short\nback 0\n" + "".join(f"fn {name}" + self.LONG for name in names)
                            + "fn main\nback 0").strip())
            with self.assertRaises(TooLong) as caught:
                make(program)
            self.assertEqual(caught.exception.function, names[0])


class OwnTest(Asked):
    PROGRAM = read("in sq n\nm = n * n\nback m\nfn main a b\nwhile a\nb = call sq b\nc = a + b\na = get c f\nend\nout c\n"
                   "c = call main a b\nback c")

    def lists_in(self, one):
        if isinstance(one, list):
            yield one
        if isinstance(one, (list, tuple)):
            for part in one:
                yield from self.lists_in(part)

    def test_no_list_stands_at_two_places(self):
        made = make(self.PROGRAM)
        self.assertEqual((type(made), len(made)), (tuple, 2))
        known = [id(one) for one in self.lists_in(made)]
        self.assertEqual(len(set(known)), len(known))
        self.assertGreater(len(known), 40)

    def test_kinds(self):
        code, table = make(self.PROGRAM)
        for name, spots in code:
            self.assertEqual((type(name), type(spots)), (str, list))
            for spot in spots:
                self.assertEqual((type(spot), type(spot[0]), type(spot[1])), (tuple, list, tuple))
                self.assertTrue(all(type(pair) is tuple and type(pair[0]) is int for pair in spot[0]))
        for name, marks in table:
            self.assertEqual((type(name), type(marks)), (str, list))
            for mark in marks:
                self.assertEqual((type(mark), type(mark[0]), type(mark[1])), (tuple, tuple, list))
                self.assertTrue(all(type(view) is list for view in mark[1]))
        for entry in code + table:
            self.assertIs(type(entry), tuple)

    def test_the_same_again_and_when_what_was_told_was_changed(self):
        first = make(self.PROGRAM)
        kept = copy.deepcopy(first)
        for one in list(self.lists_in(first)):
            one.clear()
        self.assertEqual(make(self.PROGRAM), kept)

    def test_what_is_done_to_the_program_behind_the_call(self):
        program = list(self.PROGRAM)
        made = make(program)
        kept = copy.deepcopy(made)
        program.clear()
        self.assertEqual(made, kept)


if __name__ == "__main__":
    unittest.main()
