"""Homes: which names meet, and the box that each one gets."""

import random
import unittest

from stopglass.errors import TooLong
from stopglass.homes import homes
from stopglass.plans import needed, plan
from stopglass.texts import read

from tests.helper import Unchanged, some_program


class HomesTest(unittest.TestCase):
    def homes(self, text, expected, name="main"):
        """Expected: the pairs in their order."""
        program = read(text)
        stations = plan(program, name)
        with Unchanged(self, program, stations):
            found = homes(program, stations)
        self.assertEqual(type(found), dict)
        self.assertEqual(list(found.items()), expected, text)
        self.assertTrue(all(type(number) is int for number in found.values()))

    def test_no_names(self):
        self.homes("fn main\nback 0", [])

    def test_params_whether_needed_or_not(self):
        self.homes("fn main b a c\nback 0", [((0, "b"), 0), ((0, "a"), 1), ((0, "c"), 2)])
        self.homes("fn main b a c\nback a", [((0, "b"), 0), ((0, "a"), 1), ((0, "c"), 2)])
        self.homes("fn main f e d c b a\nback 0", [((0, name), k) for k, name in enumerate("fedcba")])

    def test_names_that_are_never_needed_have_none(self):
        self.homes("fn main a\nb = a\nc = new\nback 0", [((0, "a"), 0)])

    def test_names_that_do_not_meet_share(self):
        self.homes("fn main a\nb = a\nc = b\nback c", [((0, "a"), 0), ((0, "b"), 0), ((0, "c"), 0)])

    def test_names_that_meet_at_a_way(self):
        self.homes("fn main a\nc = a\nb = a\nout c\nback b", [((0, "a"), 0), ((0, "b"), 0), ((0, "c"), 1)])

    def test_names_that_meet_at_two_ways_of_one_station(self):
        text = "fn main a\nb = get a f\nc = get b f\nif a\nout b\nelse\nout c\nend\nback 0"
        self.homes(text, [((0, "a"), 0), ((0, "b"), 1), ((0, "c"), 2)])

    def test_names_given_behind_two_ways_of_one_station(self):
        text = "fn main a\nif a\nb = 1\nout b\nelse\nc = 2\nout c\nend\nback 0"
        self.homes(text, [((0, "a"), 0), ((0, "b"), 0), ((0, "c"), 0)])

    def test_names_that_meet_at_the_begin(self):
        # y and x are not given ahead of being read, so they are needed at the begin, as a is by the words.
        self.homes("fn main a\nout y\nout x\nback 0", [((0, "a"), 0), ((0, "x"), 1), ((0, "y"), 2)])
        self.homes("fn main\nout y\nback x", [((0, "x"), 0), ((0, "y"), 1)])

    def test_a_param_meets_what_is_needed_at_the_begin_though_it_is_not(self):
        self.homes("fn main a b\nback c", [((0, "a"), 0), ((0, "b"), 1), ((0, "c"), 2)])
        self.homes("fn main a b\nc = 1\nback c", [((0, "a"), 0), ((0, "b"), 1), ((0, "c"), 0)])

    def test_sorted_by_level_and_text(self):
        text = ("in f z\ny = z + b\nout y\nback z\nin main b\nzz = b\nc = call f zz\nab = c\nout zz\nback ab")
        self.homes(text, [
            ((0, "b"), 0), ((0, "ab"), 0), ((0, "c"), 0), ((0, "zz"), 1), ((1, "b"), 0), ((1, "y"), 0), ((1, "z"), 2)])

    def test_one_name_of_two_functions_in_place_is_one(self):
        # x is a name of f, where it meets a, and one of g, where it does not: it has one home.
        text = "in f x\nback x\nin g x\nback x\nfn main a\nb = call f a\nout a\nb = call g b\nback b"
        self.homes(text, [((0, "a"), 0), ((0, "b"), 1), ((1, "x"), 1)])

    def test_the_least_that_is_free(self):
        # c does not meet a any more, and b is in box 1.
        self.homes("fn main a b\nc = a\nout b\nback c", [((0, "a"), 0), ((0, "b"), 1), ((0, "c"), 0)])

    def test_a_wait_is_a_way(self):
        self.homes("fn f\nback 0\nfn main a\nb = call f\nc = call f\nout b\nback c", [
            ((0, "a"), 0), ((0, "b"), 0), ((0, "c"), 1)])

    def test_twenty_four_names(self):
        letters = "abcdefghijklmnopqrstuvwx"
        text = "fn main\n" + "".join(f"{letter} = get 1 {letter}\n" for letter in letters)
        text += "".join(f"out {letter}\n" for letter in letters) + "back 0"
        self.homes(text, [((0, letter), k) for k, letter in enumerate(letters)])

    def test_what_is_told_is_the_askers_own(self):
        program = read("fn main a\nb = a\nout a\nback b")
        stations = plan(program, "main")
        told = dict(homes(program, stations))
        homes(program, stations).clear()
        self.assertEqual(homes(program, stations), told)


class SomeHomesTest(unittest.TestCase):
    """Point 36 by its words."""

    def test_made_up_programs(self):
        asked, shared = 0, 0
        for seed in range(200):
            program = some_program(random.Random(2000 + seed), most=5, functions=4, folded=0.8)
            for function in program:
                try:
                    stations = plan(program, function[0])
                except TooLong:
                    continue
                needs = needed(program, stations)
                params = [(0, name) for name in function[2]]
                others = {name for names in needs for name in names} - set(params)
                found = homes(program, stations)
                self.assertEqual(list(found), params + sorted(others))
                groups = [set().union(*[needs[way] for way in on]) for _, _, on in stations]
                groups.append(set(params) | set(needs[0]))
                earlier = []
                for name, number in found.items():
                    taken = {found[other] for other in earlier
                             if any(name in group and other in group for group in groups)}
                    self.assertEqual(number, min(set(range(len(earlier) + 1)) - taken))
                    earlier.append(name)
                self.assertEqual([found[param] for param in params], list(range(len(params))))
                asked += len(found)
                shared += len(found) - len(set(found.values()))
        self.assertGreater(asked, 400)
        self.assertGreater(shared, 100)


if __name__ == "__main__":
    unittest.main()
