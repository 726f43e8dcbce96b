"""Texts of programs: read to a list of functions, and written again."""

from stopglass.errors import BadRow
from stopglass.words import SIGNS, atom_of, is_name

MOST_ARGS = 6

# Of each kind of row its parts, in the order of its tuple, and its words as written; a capital stands for a part.
# A call's args, of which there may be none, stand behind these parts and behind these words.
FORMS = {
    "copy": (("X", "A"), ("X", "=", "A")),
    "op": (("X", "S", "A", "B"), ("X", "=", "A", "S", "B")),
    "new": (("X",), ("X", "=", "new")),
    "get": (("X", "A", "F"), ("X", "=", "get", "A", "F")),
    "put": (("A", "F", "B"), ("put", "A", "F", "B")),
    "call": (("X", "G"), ("X", "=", "call", "G")),
    "out": (("A",), ("out", "A")),
    "back": (("A",), ("back", "A")),
    "if": (("A",), ("if", "A")),
    "while": (("A",), ("while", "A")),
    "else": ((), ("else",)),
    "end": ((), ("end",)),
}


def read(text):
    opened = []
    for at, line in enumerate(text.split("\n")):
        words = line.split(" ")
        if is_opening(words):
            opened.append((words, []))
        else:
            row = row_of(words)
            if row is None or not opened:
                raise BadRow(at)
            opened[-1][1].append(row)
    return [function_of(words, rows) for words, rows in opened]


def is_opening(words):
    names = words[1:]
    if words[0] not in ("fn", "in") or len(names) < 1 or len(names) > 1 + MOST_ARGS:
        return False
    return all([is_name(name) for name in names])


def function_of(words, rows):
    return (words[1], words[0] == "in", tuple(words[2:]), tuple(rows))


def row_of(words):
    for kind in FORMS:
        parts, form = FORMS[kind]
        found = parts_of(words, form)
        if found is not None:
            row = (kind,) + tuple([found[part] for part in parts])
            rest = words[len(form):]
            if kind == "call":
                return with_args(row, rest)
            if not rest:
                return row
    return None


def with_args(row, words):
    atoms = [atom_of(word) for word in words]
    if len(atoms) > MOST_ARGS or None in atoms:
        return None
    return row + (tuple(atoms),)


# The parts that the first words stand for, or None where they are not of this form.
def parts_of(words, form):
    if len(words) < len(form):
        return None
    found = {}
    for word, part in zip(words, form):
        if part.isupper():
            found[part] = part_of(word, part)
            if found[part] is None:
                return None
        elif word != part:
            return None
    return found


def part_of(word, part):
    if part in ("A", "B"):
        return atom_of(word)
    if part == "S":
        return word if word in SIGNS else None
    return word if is_name(word) else None


def write(program):
    lines = []
    for name, folded, params, rows in program:
        lines.append(" ".join(["in" if folded else "fn", name] + list(params)))
        for row in rows:
            lines.append(" ".join(words_of(row)))
    return "\n".join(lines)


def words_of(row):
    parts, form = FORMS[row[0]]
    found = dict(zip(parts, row[1:]))
    args = row[3] if row[0] == "call" else ()
    return [str(found.get(part, part)) for part in form] + [str(atom) for atom in args]
