"""Programs read from texts and written as texts."""

import random
import re
import unittest

from stopglass import errors
from stopglass.errors import BadRow
from stopglass.texts import read, write

from tests.helper import SIGNS, Unchanged, some_program

TAKEN = ("fn", "in", "new", "get", "put", "call", "out", "if", "while", "else", "end", "back")
TOP = 2 ** 48 - 1

ROWS = [
    ("x = y", ("copy", "x", "y")),
    ("x = 0", ("copy", "x", 0)),
    (f"x = {TOP}", ("copy", "x", TOP)),
    ("x = y + z", ("op", "x", "+", "y", "z")),
    ("x = 0 - y", ("op", "x", "-", 0, "y")),
    (f"x = y * {TOP}", ("op", "x", "*", "y", TOP)),
    ("x = 1 / 2", ("op", "x", "/", 1, 2)),
    ("x = y < z", ("op", "x", "<", "y", "z")),
    ("x = y = z", ("op", "x", "=", "y", "z")),
    ("x = y & z", ("op", "x", "&", "y", "z")),
    ("x = y | z", ("op", "x", "|", "y", "z")),
    ("x = y ^ z", ("op", "x", "^", "y", "z")),
    ("x = new", ("new", "x")),
    ("x = get y f", ("get", "x", "y", "f")),
    ("x = get 7 x", ("get", "x", 7, "x")),
    ("put x f y", ("put", "x", "f", "y")),
    ("put 0 f 9", ("put", 0, "f", 9)),
    ("x = call g", ("call", "x", "g", ())),
    ("x = call g y", ("call", "x", "g", ("y",))),
    ("x = call g 1 y 2 z 3 x", ("call", "x", "g", (1, "y", 2, "z", 3, "x"))),
    ("out x", ("out", "x")),
    ("out 12", ("out", 12)),
    ("back x", ("back", "x")),
    ("back 0", ("back", 0)),
    ("if x", ("if", "x")),
    ("if 1", ("if", 1)),
    ("while x", ("while", "x")),
    ("while 0", ("while", 0)),
    ("else", ("else",)),
    ("end", ("end",)),
]

WHOLE = """in sq n
m = n * n
back m
fn none
back 0
fn main a b c d e f
x = new
while a
a = a - 1
if a
y = call sq a
put x total y
else
out 281474976710655
end
end
z = get x total
back z"""

WHOLE_PROGRAM = [
    ("sq", True, ("n",), (("op", "m", "*", "n", "n"), ("back", "m"))),
    ("none", False, (), (("back", 0),)),
    ("main", False, ("a", "b", "c", "d", "e", "f"), (
        ("new", "x"), ("while", "a"), ("op", "a", "-", "a", 1), ("if", "a"), ("call", "y", "sq", ("a",)),
        ("put", "x", "total", "y"), ("else",), ("out", TOP), ("end",), ("end",), ("get", "z", "x", "total"),
        ("back", "z"))),
]

NAME = r"(?!(?:" + "|".join(TAKEN) + r")(?![a-z]))[a-z]{1,8}(?![a-z])"
VALUE = r"(?:0|[1-9][0-9]{0,14})(?![0-9])"
ATOM = f"(?:{NAME}|{VALUE})"
SIGN = r"[-+*/<=&|^]"
GRAMMAR = re.compile("|".join([
    f"{NAME} = {ATOM}", f"{NAME} = {ATOM} {SIGN} {ATOM}", f"{NAME} = new", f"{NAME} = get {ATOM} {NAME}",
    f"put {ATOM} {NAME} {ATOM}", f"{NAME} = call {NAME}(?: {ATOM}){{0,6}}", f"(?:out|back|if|while) {ATOM}", "else|end",
]))
OPENING = re.compile(f"(?:fn|in) {NAME}(?: {NAME}){{0,6}}")


def first_bad(text):
    """The document's words taken literally: where the first bad row stands, or None."""
    opened = False
    for at, line in enumerate(text.split("\n")):
        great = [word for word in line.split(" ") if re.fullmatch("[0-9]+", word) and int(word) > TOP]
        if OPENING.fullmatch(line):
            opened = True
        elif great or not opened or not GRAMMAR.fullmatch(line):
            return at
    return None


class ReadTest(unittest.TestCase):
    def test_each_kind_of_row(self):
        for line, row in ROWS:
            told = read("fn f\n" + line)
            self.assertEqual(told, [("f", False, (), (row,))], line)
            self.assertEqual([type(part) for part in told[0][3][0]], [type(part) for part in row])

    def test_all_kinds_in_one_function(self):
        text = "in f a\n" + "\n".join(line for line, _ in ROWS)
        self.assertEqual(read(text), [("f", True, ("a",), tuple(row for _, row in ROWS))])

    def test_openings(self):
        for count in range(7):
            params = ("a", "b", "c", "d", "e", "abcdefgh")[:count]
            for word, folded in (("fn", False), ("in", True)):
                told = read(" ".join((word, "f") + params))
                self.assertEqual(told, [("f", folded, params, ())])
                self.assertIs(type(told), list)
                self.assertIs(type(told[0]), tuple)
                self.assertIs(type(told[0][1]), bool)
                self.assertIs(type(told[0][2]), tuple)
                self.assertIs(type(told[0][3]), tuple)

    def test_a_whole_program(self):
        self.assertEqual(read(WHOLE), WHOLE_PROGRAM)

    def test_whether_things_fit_is_not_asked(self):
        self.assertEqual(read("fn f a a\nend\nfn f\nx = call nowhere 1\nelse"), [
            ("f", False, ("a", "a"), (("end",),)), ("f", False, (), (("call", "x", "nowhere", (1,)), ("else",)))])

    def test_values_are_whole_numbers(self):
        for number in (0, 1, 9, 10, 2 ** 47, TOP):
            told = read(f"fn f\nout {number}")[0][3][0][1]
            self.assertEqual(told, number)
            self.assertIs(type(told), int)

    def test_the_list_is_the_askers_own(self):
        told = read(WHOLE)
        told.pop()
        told[0] = None
        self.assertEqual(read(WHOLE), WHOLE_PROGRAM)
        self.assertIsNot(read(WHOLE), read(WHOLE))


class BadRowTest(unittest.TestCase):
    def bad(self, text, at):
        with self.assertRaises(BadRow) as caught:
            read(text)
        self.assertEqual(caught.exception.at, at, text)
        self.assertIs(type(caught.exception.at), int)
        self.assertIs(type(caught.exception), BadRow)

    def bad_row(self, line):
        """Bad as the first row of a function, amid one and as the last row."""
        self.bad("fn f\n" + line, 1)
        self.bad("fn f\nx = 1\n" + line + "\nback 0", 2)
        self.bad("fn f\nback 0\nin g\nback 0\n" + line, 4)

    def test_the_empty_text(self):
        self.bad("", 0)

    def test_rows_ahead_of_the_first_function(self):
        for line, _ in ROWS:
            self.bad(line, 0)
            self.bad(line + "\nfn f\nback 0", 0)
        self.bad("x = 1\nx = = 1\nfn f", 0)
        self.bad("\nfn f\nback 0", 0)

    def test_empty_rows(self):
        self.bad_row("")
        self.bad("fn f\nback 0\n", 2)
        self.bad("fn f\n\nback 0\n", 1)
        self.bad("fn f\nback 0\n\n", 2)
        self.bad("fn f\n\nfn g\nback 0", 1)

    def test_blanks(self):
        for line in [line for line, _ in ROWS] + ["fn g", "in g a b"]:
            self.bad_row(" " + line)
            self.bad_row(line + " ")
            for at in [k for k, sign in enumerate(line) if sign == " "]:
                self.bad_row(line[:at] + " " + line[at:])
        self.bad_row(" ")
        self.bad(" fn f", 0)
        self.bad("fn f ", 0)
        self.bad("fn  f", 0)

    def test_other_signs_part_no_words_and_no_rows(self):
        for sign in ("\t", "\r", "\v", "\f", "\x1c", "\x85", "\u00a0", "\u2028"):
            self.bad_row("out" + sign + "x")
            self.bad_row("out x" + sign)
            self.bad_row("out x" + sign + "out x")
            self.bad("fn f" + sign + "back 0", 0)

    def test_a_word_too_few(self):
        for line, row in ROWS:
            words = line.split(" ")
            for k in range(len(words)):
                fewer = " ".join(words[:k] + words[k + 1:])
                if not GRAMMAR.fullmatch(fewer):
                    self.bad_row(fewer)
        for line in ("fn", "in", "put", "put x", "put x f", "out", "back", "if", "while", "x", "x =", "x = get",
                     "x = get y", "x = call", "x = y +", "x = + z", "x = y z", "= y", "= new"):
            self.bad_row(line)
        self.bad("fn", 0)
        self.bad("in", 0)

    def test_a_word_too_many(self):
        for line, row in ROWS:
            if row[0] not in ("copy", "call"):
                for word in ("y", "0", "end", "+"):
                    self.bad_row(line + " " + word)
        for line in ("x = y z", "x = y z w", "x = y + z w", "x = new y", "x = get y f g", "put x f y z", "out x y",
                     "else x", "end end", "else if x", "end 0", "x = y + z + w", "if x < y", "back x + y"):
            self.bad_row(line)

    def test_seven_params_and_args(self):
        self.bad_row("fn g a b c d e f h")
        self.bad_row("in g a b c d e f h")
        self.bad("fn g a b c d e f h", 0)
        self.bad_row("x = call g a b c d e f h")
        self.bad_row("x = call g 1 2 3 4 5 6 7")
        self.bad_row("x = call g 1 2 3 4 5 6 7 8")

    def test_taken_words_are_no_names(self):
        for word in TAKEN:
            for line in (f"{word} = 1", f"{word} = new", f"x = get y {word}", f"put x {word} y", f"x = call {word}",
                         f"{word} = call g", f"{word} = get y f", f"{word} = y + z", f"fn {word}", f"in {word}",
                         f"fn g {word}", f"in g a {word} b", f"x = {word} + y", f"x = y + {word}", f"out {word}",
                         f"if {word}", f"while {word}", f"back {word}", f"put {word} f y", f"put x f {word}",
                         f"x = call g {word}", f"x = call g a {word} b", f"x = get {word} f"):
                self.bad_row(line)
            if word != "new":
                self.bad_row(f"x = {word}")

    def test_values_are_no_names(self):
        for line in ("1 = x", "0 = new", "put x 1 y", "x = get y 1", "x = call 1", "fn 1", "fn g 1", "in g a 0"):
            self.bad_row(line)

    def test_wrong_atoms(self):
        for word in ("01", "00", "007", str(2 ** 48), str(2 ** 48 + 1), "999999999999999", "1" * 60, "-1", "+1", "1.0",
                     "0x1", "1_0", "X", "Abc", "aB", "a1", "1a", "abcdefghi", "a_b", "a-b", "\u00e9", "\u0661", "'a'"):
            for line in (f"out {word}", f"back {word}", f"if {word}", f"while {word}", f"x = {word}", f"x = {word} + y",
                         f"x = y + {word}", f"x = get {word} f", f"put {word} f y", f"put x f {word}",
                         f"x = call g {word}", f"x = call g a {word}"):
                self.bad_row(line)

    def test_wrong_signs(self):
        for word in ("++", "==", "<=", "=<", ">", "!", "~", "and", "+-", "x", "1", "**", "//", "&&", "S", "A", ":="):
            self.bad_row(f"x = y {word} z")
            self.bad_row(f"x {word} y")
            self.bad_row(f"x {word} new")

    def test_capitals(self):
        for line, _ in ROWS:
            capital = re.sub("^[a-z]", lambda found: found.group().upper(), line)
            self.bad_row(capital)
            if line.upper() != line:
                self.bad_row(line.upper())
        for line in ("X = A", "X = A S B", "X = new", "out A", "FN g", "Fn g", "fn G", "In g", "fn g A"):
            self.bad_row(line)
        self.bad("FN f", 0)

    def test_the_first_bad_row_is_told(self):
        self.bad("fn f\nout\nout", 1)
        self.bad("fn f\nx = 1\nelse else\n\nback\nfn 1", 2)
        self.bad("fn f\nback 0\nfn 1\nout", 2)
        self.bad("fn f\n" + "x = y\n" * 700 + "x = Y", 701)

    def test_bad_row_is_a_refusal_and_none_of_the_others(self):
        with self.assertRaises(errors.GlassError):
            read("")
        with self.assertRaises(ValueError) as caught:
            read("fn f\nx")
        for name in ("NoFunction", "TwiceNamed", "BadNest", "BadCall", "NoName", "Ended", "TooLong", "Gone", "NotBox",
                     "Shared", "BadBits", "Untrue"):
            self.assertNotIsInstance(caught.exception, getattr(errors, name))


class WriteTest(unittest.TestCase):
    def test_each_kind_of_row(self):
        for line, row in ROWS:
            self.assertEqual(write([("f", False, (), (row,))]), "fn f\n" + line)

    def test_openings(self):
        for count in range(7):
            params = ("a", "b", "c", "d", "e", "abcdefgh")[:count]
            self.assertEqual(write([("f", False, params, ())]), " ".join(("fn", "f") + params))
            self.assertEqual(write([("f", True, params, ())]), " ".join(("in", "f") + params))

    def test_a_whole_program(self):
        with Unchanged(self, WHOLE_PROGRAM):
            told = write(WHOLE_PROGRAM)
        self.assertEqual(told, WHOLE)
        self.assertIs(type(told), str)

    def test_programs_out_of_order(self):
        program = [("f", True, ("a", "a"), (("end",), ("else",))), ("f", False, (), ()),
                   ("g", False, (), (("call", "x", "h", (1, "y")), ("while", 0)))]
        self.assertEqual(write(program), "in f a a\nend\nelse\nfn f\nfn g\nx = call h 1 y\nwhile 0")
        self.assertEqual(read(write(program)), program)

    def test_names_that_look_like_parts_and_kinds(self):
        program = [("x", False, ("a", "b", "s"), (("op", "s", "-", "b", "a"), ("copy", "copy", "op"),
                                                 ("call", "g", "x", ("f", "g", "a")), ("put", "b", "a", "f")))]
        self.assertEqual(write(program), "fn x a b s\ns = b - a\ncopy = op\ng = call x f g a\nput b a f")
        self.assertEqual(read(write(program)), program)

    def test_written_and_read_again(self):
        rng = random.Random(5)
        for _ in range(300):
            program = some_program(rng, most=5)
            with Unchanged(self, program):
                text = write(program)
            self.assertEqual(read(text), program)
            self.assertEqual(write(read(text)), text)

    def test_the_program_read_may_be_changed(self):
        program = read(WHOLE)
        write(program)
        program.append(("z", True, (), ()))
        self.assertEqual(write(program), WHOLE + "\nin z")


class GrammarTest(unittest.TestCase):
    WORDS = TAKEN + SIGNS + ("x", "y", "abcdefgh", "abcdefghi", "0", "7", str(TOP), str(TOP + 1), "00", "A", "")

    def asked(self, text):
        bad = first_bad(text)
        try:
            program = read(text)
        except BadRow as error:
            self.assertEqual(error.at, bad, text)
        else:
            self.assertIsNone(bad, text)
            self.assertEqual(write(program), text)

    def test_every_row_of_one_and_two_words(self):
        for one in self.WORDS:
            self.asked("fn f\n" + one)
            for other in self.WORDS:
                self.asked("fn f\n" + one + " " + other)
                self.asked(one + " " + other)

    def test_every_row_of_three_words(self):
        for one in self.WORDS:
            for other in self.WORDS:
                for third in self.WORDS:
                    self.asked(f"fn f\n{one} {other} {third}")

    def test_rows_with_words_exchanged(self):
        rng = random.Random(9)
        lines = [line for line, _ in ROWS] + ["fn g a b", "in g", "fn g a b c d e f"]
        for _ in range(20000):
            words = rng.choice(lines).split(" ")
            for _ in range(rng.randint(0, 2)):
                k = rng.randrange(len(words))
                words[k:k + rng.randint(0, 1)] = [rng.choice(self.WORDS)] * rng.randint(0, 1)
                words = words or [""]
            self.asked("fn f\n" + " ".join(words))

    def test_texts_with_signs_exchanged(self):
        rng = random.Random(11)
        for _ in range(5000):
            signs = list(WHOLE)
            for _ in range(rng.randint(1, 2)):
                signs[rng.randrange(len(signs))] = rng.choice(" ~=+afnio019AZ\n_")
            self.asked("".join(signs))


if __name__ == "__main__":
    unittest.main()
