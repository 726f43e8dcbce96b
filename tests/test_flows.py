"""What rows read and give, and the names of a function."""

import string
import unittest

from stopglass.flows import gives, names_of, reads

SIGNS = "+-*/<=&|^"
LETTERS = string.ascii_lowercase


def function(params, rows):
    return ("f", False, tuple(params), tuple(rows))


class RowTest(unittest.TestCase):
    def row(self, row, read, given):
        self.assertEqual(reads(row), read)
        self.assertIs(type(reads(row)), list)
        self.assertEqual(gives(row), given)

    def test_copy(self):
        self.row(("copy", "x", "a"), ["a"], "x")
        self.row(("copy", "x", 0), [], "x")
        self.row(("copy", "x", "x"), ["x"], "x")

    def test_op(self):
        for sign in SIGNS:
            self.row(("op", "x", sign, "b", "a"), ["b", "a"], "x")
            self.row(("op", "x", sign, "a", "b"), ["a", "b"], "x")
            self.row(("op", "x", sign, "a", "a"), ["a"], "x")
            self.row(("op", "x", sign, 1, "a"), ["a"], "x")
            self.row(("op", "x", sign, "a", 1), ["a"], "x")
            self.row(("op", "x", sign, 1, 2), [], "x")
            self.row(("op", "x", sign, "a", "x"), ["a", "x"], "x")

    def test_new(self):
        self.row(("new", "x"), [], "x")

    def test_get(self):
        self.row(("get", "x", "a", "f"), ["a"], "x")
        self.row(("get", "x", 5, "f"), [], "x")
        self.row(("get", "x", "x", "x"), ["x"], "x")
        self.row(("get", "x", 0, "x"), [], "x")

    def test_put(self):
        self.row(("put", "a", "f", "b"), ["a", "b"], None)
        self.row(("put", "b", "f", "a"), ["b", "a"], None)
        self.row(("put", "a", "f", "a"), ["a"], None)
        self.row(("put", 1, "f", "b"), ["b"], None)
        self.row(("put", "a", "f", 1), ["a"], None)
        self.row(("put", 0, "f", 0), [], None)

    def test_call(self):
        self.row(("call", "x", "g", ()), [], "x")
        self.row(("call", "x", "g", (1, 2)), [], "x")
        self.row(("call", "x", "g", ("b", 1, "a", "b", "x", 0)), ["b", "a", "x"], "x")
        self.row(("call", "x", "x", ("a", "a", "a", "a", "a", "a")), ["a"], "x")
        self.row(("call", "x", "g", ("f", "e", "d", "c", "b", "a")), ["f", "e", "d", "c", "b", "a"], "x")

    def test_rows_with_one_atom(self):
        for kind in ("out", "back", "if", "while"):
            self.row((kind, "a"), ["a"], None)
            self.row((kind, 0), [], None)
            self.row((kind, 2 ** 48 - 1), [], None)

    def test_else_and_end(self):
        self.row(("else",), [], None)
        self.row(("end",), [], None)

    def test_names_like_kinds_of_rows(self):
        self.row(("copy", "copy", "op"), ["op"], "copy")
        self.row(("out", "copy"), ["copy"], None)

    def test_the_list_told_is_the_askers_own(self):
        row = ("call", "x", "g", ("b", "a"))
        told = reads(row)
        told.append("more")
        told[0] = "other"
        self.assertEqual(reads(row), ["b", "a"])
        self.assertEqual(row, ("call", "x", "g", ("b", "a")))
        empty = reads(("end",))
        empty.append("more")
        self.assertEqual(reads(("end",)), [])
        self.assertEqual(reads(("else",)), [])


class NamesOfTest(unittest.TestCase):
    def names(self, params, rows, expected):
        told = names_of(function(params, rows))
        self.assertEqual(told, expected)
        self.assertIs(type(told), list)

    def test_none_at_all(self):
        self.names((), (), [])
        self.names((), (("back", 0),), [])
        self.names((), (("out", 1), ("if", 1), ("put", 1, "f", 2), ("end",), ("back", 0)), [])

    def test_params_first_in_their_order(self):
        self.names(("c", "a", "b"), (("back", 0),), ["c", "a", "b"])
        self.names(("c", "a", "b"), (("copy", "b", "z"), ("copy", "y", "a"), ("back", "c")), ["c", "a", "b", "z", "y"])
        self.names("fedcba", (), list("fedcba"))

    def test_row_by_row_left_to_right(self):
        self.names((), (("copy", "z", "y"), ("op", "x", "+", "w", "v"), ("back", "u")), list("zyxwvu"))

    def test_each_kind_of_row(self):
        self.names((), (("copy", "b", "a"),), ["b", "a"])
        self.names((), (("op", "c", "-", "b", "a"),), ["c", "b", "a"])
        self.names((), (("new", "a"),), ["a"])
        self.names((), (("get", "b", "a", "f"),), ["b", "a"])
        self.names((), (("put", "b", "f", "a"),), ["b", "a"])
        self.names((), (("call", "c", "g", ("b", 1, "a")),), ["c", "b", "a"])
        for kind in ("out", "back", "if", "while"):
            self.names((), ((kind, "a"),), ["a"])
        self.names((), (("else",), ("end",)), [])

    def test_each_once(self):
        self.names(("a",), (("op", "b", "+", "b", "a"), ("op", "b", "*", "a", "a"), ("back", "b")), ["a", "b"])
        self.names((), (("copy", "a", "a"), ("out", "a"), ("back", "a")), ["a"])

    def test_fields_and_functions_called_are_no_names(self):
        self.names((), (("get", "x", 1, "field"), ("put", 1, "side", 2), ("call", "y", "g", ())), ["x", "y"])

    def test_a_field_that_is_elsewhere_a_name(self):
        self.names((), (("get", "x", "a", "b"), ("put", "a", "c", 1), ("out", "c"), ("out", "b")), list("xacb"))

    def test_the_functions_own_name_is_none_of_them(self):
        self.assertEqual(names_of(("f", True, ("a",), (("call", "x", "f", ("a",)), ("back", "x")))), ["a", "x"])

    def test_folded_or_not_is_the_same(self):
        rows = (("copy", "x", "a"), ("back", "x"))
        self.assertEqual(names_of(("f", True, ("a",), rows)), names_of(("f", False, ("a",), rows)))

    def test_nests_that_do_not_fit(self):
        self.names(("p",), (("end",), ("else",), ("while", "b"), ("else",), ("if", "a"), ("copy", "d", "c")),
                   ["p", "b", "a", "d", "c"])

    def test_many_rows_and_names(self):
        pool = [a + b for a in "zyxw" for b in LETTERS[:6]]
        rows = []
        for k in range(59):
            rows.append(("op", pool[k % 24], SIGNS[k % 9], pool[(k * 5 + 1) % 24], pool[(k * 7 + 2) % 24]))
        rows.append(("back", pool[0]))
        params = pool[18:]
        expected = list(params)
        for row in rows:
            for word in (row[1], row[3], row[4]) if row[0] == "op" else (row[1],):
                if word not in expected:
                    expected.append(word)
        self.assertEqual(len(expected), 24)
        self.names(params, rows, expected)

    def test_the_same_again(self):
        one = function(("b",), (("copy", "a", "b"), ("back", "a")))
        other = function(("x",), (("copy", "y", "x"), ("back", "a")))
        told = names_of(one)
        self.assertEqual(names_of(other), ["x", "y", "a"])
        self.assertEqual(names_of(one), ["b", "a"])
        told.clear()
        self.assertEqual(names_of(one), ["b", "a"])
        names_of(one).append("c")
        self.assertEqual(names_of(one), ["b", "a"])
        self.assertEqual(one, function(("b",), (("copy", "a", "b"), ("back", "a"))))


if __name__ == "__main__":
    unittest.main()
