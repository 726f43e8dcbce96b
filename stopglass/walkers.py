"""The walkers' common base, and the plain walk, which does a program's rows one by one."""

from stopglass.errors import Ended, NoName
from stopglass.flows import Flows
from stopglass.words import WIDE


def value(sign, one, other):
    if sign == "+":
        return (one + other) % WIDE
    if sign == "-":
        return (one - other) % WIDE
    if sign == "*":
        return (one * other) % WIDE
    if sign == "/":
        return 0 if other == 0 else one // other
    if sign == "<":
        return 1 if one < other else 0
    if sign == "=":
        return 1 if one == other else 0
    if sign == "&":
        return one & other
    if sign == "|":
        return one | other
    return one ^ other


# A walker's own frames are kept in stack, the outermost first. The base by itself shows, tells and does nothing:
# each walker has its own chain_of, shown_at, tell and walk_on.
class Walker:
    def __init__(self, program):
        self.flows = Flows(program)
        self.stack = []
        self.outcome = None
        self.sendings = []
        self.contents = {}
        self.records = 0

    def ended(self):
        return len(self.stack) == 0

    def answer(self):
        return self.outcome

    def sent(self):
        return list(self.sendings)

    def field(self, record, name):
        return self.contents.get((record, name), 0)

    def frames(self):
        found = []
        for frame in self.stack:
            found.extend(self.chain_of(frame))
        return found

    def told(self, level, name):
        self.ask_for_name(level, name)
        return self.tell(level, name)

    def step(self):
        if self.ended():
            raise Ended()
        return self.walk_on()

    def chain_of(self, frame):
        return []

    # The function's name and row at this level, or None where it is not there.
    def shown_at(self, level):
        return None

    def tell(self, level, name):
        return None

    def walk_on(self):
        return None

    def ask_for_level(self, level):
        if self.shown_at(level) is None:
            raise NoName()

    def ask_for_name(self, level, name):
        self.ask_for_level(level)
        if name not in self.names_at(level):
            raise NoName()

    def names_at(self, level):
        return self.flows.names_in.get(self.shown_at(level)[0], ())

    def send_out(self, number):
        self.sendings.append(number)
        return ("out", number)

    def put_field(self, record, name, number):
        self.contents[(record, name)] = number
        return ("put", record, name, number)

    def make_record(self):
        self.records += 1
        return ("new", self.records)


class TextFrame:
    def __init__(self, function, named):
        self.function = function
        self.row = 0
        self.named = named

    def value_of(self, atom):
        return self.named[atom] if isinstance(atom, str) else atom


class TextWalker(Walker):
    def __init__(self, program, args):
        Walker.__init__(self, program)
        self.begin(self.flows.last, args)

    def fill(self, level, name, number):
        self.ask_for_name(level, name)
        frame = self.stack[level]
        frame.named[name] = number
        return True

    def chain_of(self, frame):
        return [(frame.function, frame.row)]

    def shown_at(self, level):
        # Below 0 is asked for by itself: an index below 0 would count from the innermost frame.
        if level < 0 or level >= len(self.stack):
            return None
        return self.chain_of(self.stack[level])[0]

    def tell(self, level, name):
        return self.stack[level].named[name]

    def walk_on(self):
        frame = self.stack[-1]
        row = self.row_of(frame)
        if row[0] == "call":
            self.begin(row[2], [frame.value_of(atom) for atom in row[3]])
            return None
        if row[0] == "back":
            self.go_back(frame.value_of(row[1]))
            return None
        if row[0] in ("if", "while"):
            self.go_on(frame, 0 if frame.value_of(row[1]) != 0 else 1)
            return None
        deed = self.do_row(frame, row)
        self.go_on(frame, 0)
        return deed

    def begin(self, function, args):
        named = dict([(name, 0) for name in self.flows.names_in[function]])
        for name, number in zip(self.flows.params_of[function], args):
            named[name] = number
        self.stack.append(TextFrame(function, named))

    def row_of(self, frame):
        return self.flows.rows_of[frame.function][frame.row]

    def go_on(self, frame, way):
        frame.row = self.flows.ways_in[frame.function][frame.row][way]

    def go_back(self, number):
        self.stack.pop()
        if self.stack:
            caller = self.stack[-1]
            caller.named[self.row_of(caller)[1]] = number
            self.go_on(caller, 0)
        else:
            self.outcome = number

    def do_row(self, frame, row):
        if row[0] == "out":
            return self.send_out(frame.value_of(row[1]))
        if row[0] == "put":
            return self.put_field(frame.value_of(row[1]), row[2], frame.value_of(row[3]))
        if row[0] == "new":
            deed = self.make_record()
            frame.named[row[1]] = deed[1]
            return deed
        frame.named[row[1]] = self.value_given(frame, row)
        return None

    def value_given(self, frame, row):
        if row[0] == "get":
            return self.field(frame.value_of(row[2]), row[3])
        if row[0] == "op":
            return value(row[2], frame.value_of(row[3]), frame.value_of(row[4]))
        return frame.value_of(row[2])
