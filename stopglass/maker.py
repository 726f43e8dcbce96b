"""Code and table made of a program: spots and marks by the plan's stations, acts by its ways.

A name is told by level and text, as in the plan.
"""

from stopglass.flows import Flows
from stopglass.homes import homes_in
from stopglass.places import OWN_SIGN, behind_in, names_at_last
from stopglass.plans import heads, is_in_place, needs_in, plan_in
from stopglass.reckonings import MOST_LEAVES, boxes_of, leaves
from stopglass.steps import asked_act


def make(program):
    flows = Flows(program)
    code = []
    table = []
    for function in program:
        stations = plan_in(flows, function[0])
        making = Making(flows, stations)
        code.append((function[0], [making.spot_at(k) for k in range(len(stations))]))
        table.append((function[0], [making.mark_at(k) for k in range(len(stations))]))
    return (code, table)


# What a spot writes: sets, a dict from boxes to reckonings, and the box that its act fills, or None.
def is_written_over(one, sets, filled):
    return any([box in sets or box == filled for box in boxes_of(one)])


def must_be_saved(one, sets, filled):
    return is_written_over(one, sets, filled) and one not in list(sets.values())


# The place that shows, behind the writing, what a name is behind the row, or None where nothing shows it.
def place_left(one, sets, filled):
    if one is None:
        return None
    if one == OWN_SIGN:
        return None if filled is None else ("box", filled)
    if leaves(one) <= MOST_LEAVES and not is_written_over(one, sets, filled):
        return one
    kept = [box for box in sorted(sets) if sets[box] == one]
    return ("box", kept[0]) if kept else None


class Making:
    def __init__(self, flows, stations):
        self.flows = flows
        self.stations = stations
        self.needs = needs_in(flows, stations)
        self.is_head = heads(stations)
        self.home_of = homes_in(flows, stations, self.needs)
        self.sets_of = [None] * len(stations)
        # For each station that was come to, its names' places as far as the ways come along so far tell them.
        self.shown = [None] * len(stations)
        self.is_fresh = [False] * len(stations)
        self.bring(0, self.begun())
        self.settle()

    def begun(self):
        function = self.stations[0][0][0][0]
        found = dict([((0, name), ("num", 0)) for name in self.flows.names_in[function]])
        for k, name in enumerate(self.flows.params_of[function]):
            found[(0, name)] = ("box", k)
        return found

    # What a name is at a head is taken from the first way that comes there, and is gone only where another way brings
    # another place: so no name is gone for no better reason than that it is gone at the loop's end.
    def settle(self):
        while any(self.is_fresh):
            for k in range(len(self.stations)):
                if self.is_fresh[k]:
                    self.is_fresh[k] = False
                    self.pass_on(k)

    def pass_on(self, k):
        chain, wait, ways = self.stations[k]
        found = behind_in(self.flows, chain, wait, self.shown[k])
        # Sets are of needed names, whose places are settled when a station is come to first.
        if self.sets_of[k] is None:
            self.sets_of[k] = self.sets_for(k, found)
        filled = self.filled_at(k)
        left = dict([(name, place_left(one, self.sets_of[k], filled)) for name, one in found.items()])
        for way in ways:
            self.bring(way, left)

    def bring(self, k, left):
        ahead = self.shown[k]
        found = {}
        for name, place in left.items():
            if self.is_head[k] and name in self.needs[k]:
                found[name] = ("box", self.home_of[name])
            elif ahead is None or ahead[name] == place:
                found[name] = place
            else:
                found[name] = None
        if found != ahead:
            self.shown[k] = found
            self.is_fresh[k] = True

    # The box that the act fills, or None.
    def filled_at(self, k):
        chain, wait, ways = self.stations[k]
        row = self.flows.row_at(chain[-1])
        if not wait and row[0] not in ("get", "new"):
            return None
        name = (len(chain) - 1, row[1])
        return self.home_of[name] if name in self.needs[ways[0]] else None

    # What must be set, by the boxes: for heads and for leaves first, then what would be written over.
    def sets_for(self, k, found):
        filled = self.filled_at(k)
        sets = {}
        wanted = {}
        for way in self.stations[k][2]:
            for name in self.needs[way]:
                home = self.home_of[name]
                # What the act brings is put by it into its home.
                if found[name] != OWN_SIGN:
                    wanted[home] = found[name]
                    if self.must_be_home(way, found[name], home):
                        sets[home] = found[name]
        rest = [home for home in wanted if must_be_saved(wanted[home], sets, filled)]
        while rest:
            # One by one: this set may be enough for another name of the same reckoning.
            sets[rest[0]] = wanted[rest[0]]
            rest = [home for home in wanted if must_be_saved(wanted[home], sets, filled)]
        return sets

    def must_be_home(self, way, one, home):
        if self.is_head[way] and one != ("box", home):
            return True
        return leaves(one) > MOST_LEAVES

    def spot_at(self, k):
        sets = self.sets_of[k]
        return ([(box, sets[box]) for box in sorted(sets)], self.act_at(k))

    def act_at(self, k):
        chain, wait, ways = self.stations[k]
        row = self.flows.row_at(chain[-1])
        filled = self.filled_at(k)
        if wait:
            return ("wait", filled) + ways
        if row[0] == "back" and len(chain) > 1 or row[0] == "call" and is_in_place(self.flows, chain):
            return ("go",) + ways
        if row[0] == "get" and filled is None:
            return ("go",) + ways
        asked = asked_act(row, names_at_last(self.flows, chain, self.shown[k]))
        if row[0] in ("get", "new"):
            return asked + (filled,) + ways
        return asked + ways

    def mark_at(self, k):
        chain = self.stations[k][0]
        return (chain, [self.view_at(k, level) for level in range(len(chain))])

    def view_at(self, k, level):
        function = self.stations[k][0][level][0]
        return [self.shown[k][(level, name)] for name in self.flows.names_in[function]]
