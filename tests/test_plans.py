"""Plans: their stations and ways, the names needed there, and the heads."""

import random
import unittest

from stopglass.errors import GlassError, TooLong
from stopglass.flows import ways
from stopglass.plans import heads, needed, plan
from stopglass.texts import read

from tests.helper import Unchanged, all_names, some_program


def one(row, *more):
    """The chain of main at that row, and of the frames behind it."""
    return (("main", row),) + more


class Stations(unittest.TestCase):
    def stations(self, text, expected, name="main"):
        program = read(text)
        with Unchanged(self, program):
            found = plan(program, name)
        self.assertEqual(found, expected, text)
        self.assertIs(type(found), list)
        for station in found:
            chain, wait, ways_on = station
            self.assertEqual((type(station), type(chain), type(wait), type(ways_on)), (tuple, tuple, bool, tuple))
            for frame in chain:
                self.assertEqual((type(frame), type(frame[0]), type(frame[1])), (tuple, str, int))
            self.assertTrue(all(type(way) is int for way in ways_on))


class PlanOfRowsTest(Stations):
    def test_a_back_alone(self):
        self.stations("fn main\nback 0", [(one(0), False, ())])

    def test_rows_one_behind_the_other(self):
        text = "fn main a\nb = a\nb = a + b\nc = new\nd = get c f\nput c f d\nout d\nback d"
        self.stations(text, [(one(k), False, (k + 1,)) for k in range(6)] + [(one(6), False, ())])

    def test_if_without_else(self):
        self.stations("fn main a\nif a\nout 1\nend\nback a", [
            (one(0), False, (1, 2)), (one(1), False, (2,)), (one(3), False, ())])

    def test_if_with_else(self):
        self.stations("fn main a\nif a\nout 1\nelse\nout 2\nend\nback a", [
            (one(0), False, (1, 2)), (one(1), False, (3,)), (one(3), False, (3,)), (one(5), False, ())])

    def test_an_if_of_nothing(self):
        self.stations("fn main a\nif a\nend\nback a", [(one(0), False, (1, 1)), (one(2), False, ())])
        self.stations("fn main a\nif a\nelse\nend\nback a", [(one(0), False, (1, 1)), (one(3), False, ())])

    def test_while(self):
        self.stations("fn main a\nwhile a\na = a - 1\nend\nback a", [
            (one(0), False, (1, 2)), (one(1), False, (0,)), (one(3), False, ())])

    def test_a_while_of_nothing(self):
        self.stations("fn main a\nout a\nwhile a\nend\nback a", [
            (one(0), False, (1,)), (one(1), False, (1, 2)), (one(3), False, ())])

    def test_nests(self):
        # 0 while, 1 if, 2 while, 3 out, 4 end, 5 else, 6 back, 7 end, 8 end, 9 back.
        self.stations("fn main a\nwhile a\nif a\nwhile a\nout a\nend\nelse\nback 1\nend\nend\nback 2", [
            (one(0), False, (1, 2)),
            (one(1), False, (3, 4)),
            (one(9), False, ()),
            (one(2), False, (5, 0)),
            (one(6), False, ()),
            (one(3), False, (3,)),
        ])

    def test_rows_that_no_way_comes_to_have_no_station(self):
        self.stations("fn main a\nback a\nout 1\nwhile a\nend\nback 0", [(one(0), False, ())])
        self.stations("fn main a\nif a\nback 1\nelse\nback 2\nend\nout a\nback 3", [
            (one(0), False, (1, 2)), (one(1), False, ()), (one(3), False, ())])

    def test_yes_is_come_upon_ahead_of_no(self):
        self.stations("fn main a\nif a\nout 1\nout 2\nelse\nout 3\nend\nback 0", [
            (one(0), False, (1, 2)), (one(1), False, (3,)), (one(4), False, (4,)), (one(2), False, (4,)),
            (one(6), False, ())])


class PlanOfCallsTest(Stations):
    def test_a_call_that_does_not_stand_in_place(self):
        self.stations("fn f\nback 0\nfn main a\nb = call f\nback b", [
            (one(0), False, (1,)), (one(0), True, (2,)), (one(1), False, ())])

    def test_a_call_in_place(self):
        self.stations("in f x\ny = x\nback y\nfn main a\nb = call f a\nback b", [
            (one(0), False, (1,)),
            (one(0, ("f", 0)), False, (2,)),
            (one(0, ("f", 1)), False, (3,)),
            (one(1), False, ()),
        ])

    def test_the_function_whose_plan_it_is_may_be_folded_or_not(self):
        for opening in ("in", "fn"):
            self.stations(f"in f\nback 0\n{opening} main a\nb = call f\nback b", [
                (one(0), False, (1,)), (one(0, ("f", 0)), False, (2,)), (one(1), False, ())])

    def test_a_later_function_does_not_stand_in_place(self):
        text = "fn main a\nb = call f a\nback b\nin f x\nback x"
        self.stations(text, [(one(0), False, (1,)), (one(0), True, (2,)), (one(1), False, ())])

    def test_the_own_function_does_not_stand_in_place(self):
        for opening in ("in", "fn"):
            self.stations(f"{opening} main a\nb = call main a\nback b", [
                (one(0), False, (1,)), (one(0), True, (2,)), (one(1), False, ())])

    def test_a_folded_function_that_calls_itself_stands_in_place_once(self):
        self.stations("in f x\ny = call f x\nback y\nfn main a\nb = call f a\nback b", [
            (one(0), False, (1,)),
            (one(0, ("f", 0)), False, (2,)),
            (one(0, ("f", 0)), True, (3,)),
            (one(0, ("f", 1)), False, (4,)),
            (one(1), False, ()),
        ])

    def test_ahead_is_asked_of_the_function_of_the_row(self):
        # g stands ahead of main, but not ahead of f, in whose row it is called.
        self.stations("in f\nx = call g\nback x\nin g\nback 1\nfn main\na = call f\nb = call g\nback b", [
            (one(0), False, (1,)),
            (one(0, ("f", 0)), False, (2,)),
            (one(0, ("f", 0)), True, (3,)),
            (one(0, ("f", 1)), False, (4,)),
            (one(1), False, (5,)),
            (one(1, ("g", 0)), False, (6,)),
            (one(2), False, ()),
        ])

    def test_three_frames_and_a_call_that_would_be_the_fourth(self):
        text = ("in f\nback 1\nin g\nx = call f\nback x\nin h\ny = call g\nback y\n"
                "fn main\na = call h\nback a")
        self.stations(text, [
            (one(0), False, (1,)),
            (one(0, ("h", 0)), False, (2,)),
            (one(0, ("h", 0), ("g", 0)), False, (3,)),
            (one(0, ("h", 0), ("g", 0)), True, (4,)),
            (one(0, ("h", 0), ("g", 1)), False, (5,)),
            (one(0, ("h", 1)), False, (6,)),
            (one(1), False, ()),
        ])
        self.stations(text, [
            ((("h", 0),), False, (1,)),
            ((("h", 0), ("g", 0)), False, (2,)),
            ((("h", 0), ("g", 0), ("f", 0)), False, (3,)),
            ((("h", 0), ("g", 1)), False, (4,)),
            ((("h", 1),), False, ()),
        ], "h")

    def test_two_calls_of_one_folded_function(self):
        self.stations("in f x\nback x\nfn main a\nb = call f a\nb = call f b\nback b", [
            (one(0), False, (1,)),
            (one(0, ("f", 0)), False, (2,)),
            (one(1), False, (3,)),
            (one(1, ("f", 0)), False, (4,)),
            (one(2), False, ()),
        ])

    def test_backs_amid_a_function_in_place_come_together(self):
        self.stations("in f x\nif x\nback 1\nend\nback 2\nfn main a\nb = call f a\nback b", [
            (one(0), False, (1,)),
            (one(0, ("f", 0)), False, (2, 3)),
            (one(0, ("f", 1)), False, (4,)),
            (one(0, ("f", 3)), False, (4,)),
            (one(1), False, ()),
        ])

    def test_a_call_at_a_whiles_end_leads_back_to_it(self):
        self.stations("in f x\nback x\nfn g x\nback x\nfn main a\nwhile a\na = call f a\nend\nwhile a\na = call g a\n"
                      "end\nback a", [
                          (one(0), False, (1, 2)),
                          (one(1), False, (3,)),
                          (one(3), False, (4, 5)),
                          (one(1, ("f", 0)), False, (0,)),
                          (one(4), False, (6,)),
                          (one(6), False, ()),
                          (one(4), True, (2,)),
                      ])


def long_text(rows, name="main"):
    """A plan of 183 stations and one for each of its rows but the calls: its own copies and its back."""
    folded = "in f x\n" + "x = x + 1\n" * 59 + "back x\n"
    return folded + f"fn {name} a\n" + "a = call f a\n" * 3 + "a = a + 1\n" * (rows - 1) + "back a"


class TooLongTest(unittest.TestCase):
    def test_two_hundred_stations(self):
        program = read(long_text(17))
        self.assertEqual(len(plan(program, "main")), 200)
        self.assertEqual(len(needed(program, plan(program, "main"))), 200)
        self.assertEqual(len(plan(program, "f")), 60)

    def test_one_more(self):
        for rows in (18, 19, 40):
            for name in ("main", "other"):
                program = read(long_text(rows, name) + "\nfn last b\nback b")
                with self.assertRaises(TooLong) as caught, Unchanged(self, program):
                    plan(program, name)
                self.assertEqual(caught.exception.function, name)
                self.assertIsInstance(caught.exception, GlassError)
                self.assertEqual(len(plan(program, "f")), 60)
                self.assertEqual(len(plan(program, "last")), 1)

    def test_the_last_one_may_be_come_upon_by_a_no(self):
        # The 201st station is the back behind the while, which the while's no leads to.
        for rows, fits in ((15, True), (16, False)):
            text = long_text(rows).replace("a = call f a\n", "while a\na = call f a\nend\n", 1)
            program = read(text.replace("\nback a", "\nwhile a\nend\nback a"))
            if fits:
                self.assertEqual(len(plan(program, "main")), 200)
            else:
                self.assertRaises(TooLong, plan, program, "main")

    def test_hundreds_of_thousands(self):
        folded = "in f x\n" + "x = x + 1\n" * 59 + "back x\n"
        calls = "in g x\n" + "x = call f x\n" * 59 + "back x\n"
        program = read(folded + calls + calls.replace("in g", "in main").replace("call f", "call g") + "fn h\nback 0")
        for name in ("g", "main"):
            with self.assertRaises(TooLong) as caught:
                plan(program, name)
            self.assertEqual(caught.exception.function, name)


class SomePlansTest(unittest.TestCase):
    """Point 32 asked of made-up programs: where ways lead, and that numbers go by the order of coming."""

    def leads(self, program, chain, wait):
        functions = {function[0]: function for function in program}
        order = [function[0] for function in program]
        name, k = chain[-1]
        row = functions[name][3][k]
        on = ways(functions[name][3])[k]
        if row[0] == "call" and not wait:
            called = functions[row[2]]
            if called[1] and order.index(row[2]) < order.index(name) and len(chain) < 3:
                return [(chain + ((row[2], 0),), False)]
            return [(chain, True)]
        if row[0] == "back":
            if len(chain) == 1:
                return []
            caller, at = chain[-2]
            return [(chain[:-2] + ((caller, ways(functions[caller][3])[at][0]),), False)]
        return [(chain[:-1] + ((name, to),), False) for to in on]

    def test_made_up_programs(self):
        deepest, waits = 0, 0
        for seed in range(150):
            program = some_program(random.Random(seed), most=4, functions=5, folded=0.8)
            for function in program:
                try:
                    found = plan(program, function[0])
                except TooLong as refusal:
                    self.assertEqual(refusal.function, function[0])
                    continue
                stops = [(chain, wait) for chain, wait, _ in found]
                self.assertEqual(stops[0], (((function[0], 0),), False))
                self.assertEqual(len(set(stops)), len(stops))
                self.assertLessEqual(len(stops), 200)
                come_upon = [0]
                for chain, wait, on in found:
                    self.assertEqual([stops[way] for way in on], self.leads(program, chain, wait))
                    come_upon = list(dict.fromkeys(come_upon + list(on)))
                    deepest, waits = max(deepest, len(chain)), waits + wait
                self.assertEqual(come_upon, list(range(len(stops))))
        self.assertEqual(deepest, 3)
        self.assertGreater(waits, 100)

    def test_what_is_told_is_the_askers_own(self):
        program = read("in f x\nback x\nfn main a\nwhile a\na = call f a\nend\nback a")
        first = plan(program, "main")
        first_needs = needed(program, first)
        first_heads = heads(first)
        told = (list(first), [list(names) for names in first_needs], list(first_heads))
        first.clear()
        for names in first_needs:
            names.clear()
        first_heads.clear()
        again = plan(program, "main")
        self.assertEqual((again, needed(program, again), heads(again)), told)

    def test_no_two_lists_are_one(self):
        program = read("fn main a\nout 1\nout 2\nback 3")
        found = needed(program, plan(program, "main"))
        found[0].append("changed")
        self.assertEqual(found[1:], [[], []])


class NeededTest(unittest.TestCase):
    def needs(self, text, expected, name="main"):
        """Expected: from chains (and True for a wait) to the names needed there."""
        program = read(text)
        stations = plan(program, name)
        with Unchanged(self, program, stations):
            found = needed(program, stations)
        self.assertEqual((type(found), len(found)), (list, len(stations)))
        told = {(chain if not wait else (chain, True)): names for (chain, wait, _), names in zip(stations, found)}
        for at, names in expected.items():
            self.assertEqual(told[at], names, (text, at))
        for names in found:
            self.assertEqual(type(names), list)
            self.assertEqual(names, sorted(set(names)))

    def test_rows_one_behind_the_other(self):
        self.needs("fn main a b\nc = a + b\nd = c\nout d\ne = new\nput e f a\ng = get e f\nback g", {
            one(0): [(0, "a"), (0, "b")],
            one(1): [(0, "a"), (0, "c")],
            one(2): [(0, "a"), (0, "d")],
            one(3): [(0, "a")],
            one(4): [(0, "a"), (0, "e")],
            one(5): [(0, "e")],
            one(6): [(0, "g")],
        })

    def test_names_given_ahead_of_being_read(self):
        self.needs("fn main a\nb = 1\nb = 2\na = b\nback a", {
            one(0): [], one(1): [], one(2): [(0, "b")], one(3): [(0, "a")]})

    def test_a_row_that_reads_what_it_gives(self):
        self.needs("fn main a\na = a + a\na = get a f\na = a\nback a", {
            one(0): [(0, "a")], one(1): [(0, "a")], one(2): [(0, "a")], one(3): [(0, "a")]})

    def test_what_a_row_reads_is_needed_though_its_x_is_not(self):
        self.needs("fn main a b c\nb = a\nb = get a f\nb = a * c\nback 0", {
            one(0): [(0, "a"), (0, "c")], one(1): [(0, "a"), (0, "c")], one(2): [(0, "a"), (0, "c")], one(3): []})

    def test_numbers_are_no_names(self):
        self.needs("fn main a\nb = 5\nout 6\nput 1 f 2\nc = get 3 f\nif 1\nend\nback 7", {
            one(k): [] for k in (0, 1, 2, 3, 4, 6)})

    def test_both_ways_of_an_if(self):
        self.needs("fn main a b c d\nif a\nout b\nelse\nout c\nend\nback d", {
            one(0): [(0, "a"), (0, "b"), (0, "c"), (0, "d")],
            one(1): [(0, "b"), (0, "d")],
            one(3): [(0, "c"), (0, "d")],
            one(5): [(0, "d")],
        })

    def test_given_on_one_way_alone(self):
        self.needs("fn main a b\nif a\nb = 1\nend\nback b", {
            one(0): [(0, "a"), (0, "b")], one(1): [], one(3): [(0, "b")]})
        self.needs("fn main a b\nif a\nb = 1\nelse\nb = 2\nend\nback b", {
            one(0): [(0, "a")], one(1): [], one(3): [], one(5): [(0, "b")]})

    def test_around_a_while(self):
        self.needs("fn main a b c\nwhile a\nout c\na = a - b\nc = 1\nend\nback 0", {
            one(0): [(0, "a"), (0, "b"), (0, "c")],
            one(1): [(0, "a"), (0, "b"), (0, "c")],
            one(2): [(0, "a"), (0, "b")],
            one(3): [(0, "a"), (0, "b")],
            one(5): [],
        })

    def test_around_two_whiles(self):
        self.needs("fn main a b c\nwhile a\nwhile b\nout 1\nend\nout c\nend\nback 0", {
            one(k): [(0, "a"), (0, "b"), (0, "c")] for k in (0, 1, 2, 4)})

    def test_a_call_and_its_wait(self):
        self.needs("fn f x y\nback x\nfn main a b c\nc = call f a b\nd = call f c c\nback c", {
            one(0): [(0, "a"), (0, "b")],
            (one(0), True): [],
            one(1): [(0, "c")],
            (one(1), True): [(0, "c")],
            one(2): [(0, "c")],
        })

    def test_a_call_whose_x_is_its_arg(self):
        self.needs("fn f x y\nback x\nfn main a b\na = call f a 3\nback a", {
            one(0): [(0, "a")], (one(0), True): [], one(1): [(0, "a")]})

    def test_a_name_over_a_wait(self):
        self.needs("fn f\nback 0\nfn main a b\nb = call f\nback a", {
            one(0): [(0, "a")], (one(0), True): [(0, "a")], one(1): [(0, "a")]})

    def test_a_call_in_place_gives_all_names_of_its_frame(self):
        self.needs("in f x y\nz = y\nif w\nout x\nend\nback z\nfn main a b c d\nd = call f a b\nout c\nback d", {
            one(0): [(0, "a"), (0, "b"), (0, "c")],
            one(0, ("f", 0)): [(0, "c"), (1, "w"), (1, "x"), (1, "y")],
            one(0, ("f", 1)): [(0, "c"), (1, "w"), (1, "x"), (1, "z")],
            one(0, ("f", 2)): [(0, "c"), (1, "x"), (1, "z")],
            one(0, ("f", 4)): [(0, "c"), (1, "z")],
            one(1): [(0, "c"), (0, "d")],
        })

    def test_args_are_read_though_the_params_are_not(self):
        self.needs("in f x\nback 0\nfn main a b\nb = call f a\nback b", {
            one(0): [(0, "a")], one(0, ("f", 0)): [], one(1): [(0, "b")]})

    def test_a_back_with_a_way_gives_the_x_ahead(self):
        self.needs("in f x\nback x\nfn main a b\nb = call f a\nback b", {
            one(0): [(0, "a")], one(0, ("f", 0)): [(1, "x")], one(1): [(0, "b")]})
        self.needs("in f x\nback x\nfn main a b\na = call f 4\nback b", {
            one(0): [(0, "b")], one(0, ("f", 0)): [(0, "b"), (1, "x")], one(1): [(0, "b")]})

    def test_the_x_of_a_call_in_place_is_not_given_by_the_call(self):
        # In f the name a of main is not read, whatever a of its own does.
        self.needs("in f\na = a + 1\nback a\nfn main a\na = call f\nback a", {
            one(0): [], one(0, ("f", 0)): [(1, "a")], one(0, ("f", 1)): [(1, "a")], one(1): [(0, "a")]})

    def test_three_levels_sorted_by_level_and_text(self):
        text = ("in f z\nout z\nback a\nin g z\ny = call f z\nback z\nin main z b\nx = call g b\nout z\nback x")
        self.needs(text, {
            one(0, ("g", 0), ("f", 0)): [(0, "z"), (1, "z"), (2, "a"), (2, "z")],
            one(0, ("g", 0), ("f", 1)): [(0, "z"), (1, "z"), (2, "a")],
            one(0, ("g", 1)): [(0, "z"), (1, "z")],
            one(0, ("g", 0)): [(0, "z"), (1, "z")],
            one(0): [(0, "b"), (0, "z")],
        })

    def test_a_wait_of_a_chain_of_two(self):
        self.needs("fn f x\nback x\nin g p q\np = call f q\nback p\nfn main a b\nb = call g a a\nout a\nback b", {
            one(0, ("g", 0)): [(0, "a"), (1, "q")],
            (one(0, ("g", 0)), True): [(0, "a")],
            one(0, ("g", 1)): [(0, "a"), (1, "p")],
        })

    def test_texts_are_sorted_as_texts(self):
        self.needs("fn main b ab a z aa\nx = a + b\nx = aa + ab\nx = x + z\nback x", {
            one(0): [(0, "a"), (0, "aa"), (0, "ab"), (0, "b"), (0, "z")]})


class SomeNeedsTest(unittest.TestCase):
    """Point 34 by its words: for each station and name, whether some way on reads it ahead of giving it."""

    def reads_and_gives(self, program, station):
        functions = {function[0]: function for function in program}
        chain, wait, on = station
        level = len(chain) - 1
        row = functions[chain[-1][0]][3][chain[-1][1]]
        if wait:
            return set(), {(level, row[1])}
        if row[0] == "call":
            atoms, given = row[3], set()
            if len(on) == 1 and not self.stations[on[0]][1]:
                given = {(level + 1, name) for name in all_names(functions[row[2]])}
        elif row[0] == "back":
            atoms, given = row[1:], set()
            if on:
                caller = functions[chain[-2][0]][3][chain[-2][1]]
                given = {(level - 1, caller[1])} | {(level, name) for name in all_names(functions[chain[-1][0]])}
        else:
            where = {"copy": (2,), "op": (3, 4), "get": (2,), "put": (1, 3), "new": ()}.get(row[0], (1,))
            atoms = [row[k] for k in where]
            given = {(level, row[1])} if row[0] in ("copy", "op", "get", "new") else set()
        return {(level, atom) for atom in atoms if isinstance(atom, str)}, given

    def is_read(self, k, name):
        seen, waiting = set(), [k]
        while waiting:
            at = waiting.pop()
            if at not in seen:
                seen.add(at)
                read_here, given_here = self.facts[at]
                if name in read_here:
                    return True
                if name not in given_here:
                    waiting += self.stations[at][2]
        return False

    def test_made_up_programs(self):
        asked = 0
        for seed in range(80):
            program = some_program(random.Random(1000 + seed), most=5, functions=4, folded=0.8)
            functions = {function[0]: function for function in program}
            for function in program:
                try:
                    self.stations = plan(program, function[0])
                except TooLong:
                    continue
                self.facts = [self.reads_and_gives(program, station) for station in self.stations]
                for k, names in enumerate(needed(program, self.stations)):
                    everything = [(level, name) for level, frame in enumerate(self.stations[k][0])
                                  for name in all_names(functions[frame[0]])]
                    self.assertEqual(names, sorted(name for name in everything if self.is_read(k, name)))
                    asked += len(everything)
        self.assertGreater(asked, 5000)


class HeadsTest(unittest.TestCase):
    def heads(self, on, expected):
        stations = [((("main", k),), False, ways_on) for k, ways_on in enumerate(on)]
        with Unchanged(self, stations):
            found = heads(stations)
        self.assertEqual(found, expected, on)
        self.assertTrue(type(found) is list and all(type(told) is bool for told in found))

    def test_one_station(self):
        self.heads([()], [False])

    def test_the_begin_counts(self):
        self.heads([(0,)], [True])
        self.heads([(1,), (0,)], [True, False])
        self.heads([(1,), (1,)], [False, True])

    def test_two_ways_of_one_station(self):
        self.heads([(1, 1), ()], [False, True])
        self.heads([(1, 2), (), ()], [False, False, False])

    def test_two_stations(self):
        self.heads([(1, 2), (3,), (3,), ()], [False, False, False, True])

    def test_three_ways(self):
        self.heads([(1, 1), (1, 2), (0, 0)], [True, True, False])

    def test_stations_that_nothing_leads_to(self):
        self.heads([(), (), ()], [False, False, False])
        self.heads([(), (0,), ()], [True, False, False])
        self.heads([(), (2,), (2,)], [False, False, True])

    def test_any_tuples(self):
        for chain, wait in (((), True), (None, None), ("text", 5), ((("nowhere", -3),), False)):
            stations = [(chain, wait, (1, 2, 2)), (chain, wait, ()), (chain, wait, (0, 1, 2))]
            self.assertEqual(heads(stations), [True, True, True])
            self.assertEqual(heads(stations[:2] + [(chain, wait, ())]), [False, False, True])
            self.assertEqual(heads([(chain, wait, ())]), [False])

    def test_of_plans(self):
        program = read("in f x\nif x\nback 1\nend\nback 2\nfn main a\nwhile a\na = call f a\nend\nback a")
        stations = plan(program, "main")
        found = {station[0]: told for station, told in zip(stations, heads(stations))}
        self.assertEqual(found, {
            one(0): True, one(1): False, one(3): False,
            one(1, ("f", 0)): False, one(1, ("f", 1)): False, one(1, ("f", 3)): False})
        self.assertEqual(heads(plan(program, "f")), [False, False, False])

    def test_a_wait_is_no_head(self):
        program = read("fn f\nback 0\nfn main a\nwhile a\na = call f\nend\nback a")
        stations = plan(program, "main")
        self.assertEqual([told for station, told in zip(stations, heads(stations)) if station[1]], [False])


if __name__ == "__main__":
    unittest.main()
