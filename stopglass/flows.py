"""What the rows of a function read and give, and where each row leads."""

ATOM_PLACES = {
    "copy": (2,),
    "op": (3, 4),
    "new": (),
    "get": (2,),
    "put": (1, 3),
    "out": (1,),
    "back": (1,),
    "if": (1,),
    "while": (1,),
    "else": (),
    "end": (),
}
GIVING_KINDS = ("copy", "op", "new", "get", "call")


def names_of(function):
    found = list(function[2])
    for row in function[3]:
        given = gives(row)
        if given is not None:
            found.append(given)
        found.extend(reads(row))
    return each_once(found)


def reads(row):
    return each_once([atom for atom in atoms_of(row) if isinstance(atom, str)])


def gives(row):
    return row[1] if row[0] in GIVING_KINDS else None


def atoms_of(row):
    if row[0] == "call":
        return list(row[3])
    return [row[place] for place in ATOM_PLACES[row[0]]]


def each_once(names):
    return list(dict([(name, True) for name in names]))


def ways(rows):
    begins = begins_of(rows)
    behind = firsts_behind(rows, begins)
    turns = {}
    for k, begin in begins.items():
        # An if's else stands ahead of its end, so the first one found is where no leads past.
        turns.setdefault(begin, k)
    found = []
    for k, row in enumerate(rows):
        if row[0] in ("else", "end"):
            found.append(None)
        elif row[0] == "back":
            found.append(())
        elif k in turns:
            found.append((behind[k], behind[turns[k]]))
        else:
            found.append((behind[k],))
    return found


# For each else and end: the row of the if or while that it belongs to.
def begins_of(rows):
    opened = []
    begins = {}
    for k, row in enumerate(rows):
        if row[0] in ("if", "while"):
            opened.append(k)
        elif row[0] == "else":
            begins[k] = opened[-1]
        elif row[0] == "end":
            begins[k] = opened.pop()
    return begins


# For each row the first place behind it; None for the last row, a back, behind which there is none.
def firsts_behind(rows, begins):
    ends = {}
    for k, begin in begins.items():
        ends[begin] = k
    behind = [None] * len(rows)
    # A place behind a row hangs on those behind later rows alone, so going up needs no recursion.
    for k in range(len(rows) - 2, -1, -1):
        follower = k + 1
        kind = rows[follower][0]
        if kind == "else":
            behind[k] = behind[ends[begins[follower]]]
        elif kind == "end" and rows[begins[follower]][0] == "while":
            behind[k] = begins[follower]
        elif kind == "end":
            behind[k] = behind[follower]
        else:
            behind[k] = follower
    return behind


# What is asked again and again of a program in order, by its functions' names; nothing of it hangs on the
# list that was handed in, which may be changed behind.
class Flows:
    def __init__(self, program):
        self.last = program[-1][0]
        self.number_of = {}
        self.folded_of = {}
        self.params_of = {}
        self.rows_of = {}
        self.names_in = {}
        self.ways_in = {}
        for k, function in enumerate(program):
            self.number_of[function[0]] = k
            self.folded_of[function[0]] = function[1]
            self.params_of[function[0]] = function[2]
            self.rows_of[function[0]] = function[3]
            self.names_in[function[0]] = names_of(function)
            self.ways_in[function[0]] = ways(function[3])

    def row_at(self, frame):
        return self.rows_of[frame[0]][frame[1]]

    def ways_at(self, frame):
        return self.ways_in[frame[0]][frame[1]]
