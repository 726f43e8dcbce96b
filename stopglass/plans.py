"""The plan of a function: the stations that its code stands at, which names are needed there, and the heads.

A name is told by level and text: (0, "a") is a in the chain's first frame.
"""

from stopglass.errors import TooLong
from stopglass.flows import Flows, gives, reads
from stopglass.steps import moved

MOST_STATIONS = 200
MOST_FRAMES = 3


def plan(program, name):
    return plan_in(Flows(program), name)


def plan_in(flows, name):
    stops = [(((name, 0),), False)]
    numbers = {stops[0]: 0}
    stations = []
    while len(stations) < len(stops):
        chain, wait = stops[len(stations)]
        ways = []
        for stop in stops_behind(flows, chain, wait):
            if stop not in numbers:
                if len(stops) == MOST_STATIONS:
                    raise TooLong(name)
                numbers[stop] = len(stops)
                stops.append(stop)
            ways.append(numbers[stop])
        stations.append((chain, wait, tuple(ways)))
    return stations


def stops_behind(flows, chain, wait):
    row = flows.row_at(chain[-1])
    if row[0] == "back":
        return [(moved(flows, chain[:-1], 0), False)] if len(chain) > 1 else []
    if row[0] == "call" and not wait:
        return [(chain + ((row[2], 0),), False) if is_in_place(flows, chain) else (chain, True)]
    return [(moved(flows, chain, way), False) for way in range(len(flows.ways_at(chain[-1])))]


# Whether the call that the chain's last frame stands at stands in place. That the function called stands ahead keeps
# a function from ever standing in place within itself.
def is_in_place(flows, chain):
    called = flows.row_at(chain[-1])[2]
    if not flows.folded_of[called] or len(chain) >= MOST_FRAMES:
        return False
    return flows.number_of[called] < flows.number_of[chain[-1][0]]


def needed(program, stations):
    return [sorted(names) for names in needs_in(Flows(program), stations)]


# For each station a dict that has the names needed there.
def needs_in(flows, stations):
    read = [read_at(flows, station) for station in stations]
    given = [given_at(flows, station) for station in stations]
    needs = [{} for station in stations]
    growing = True
    while growing:
        growing = False
        # What is needed is handed on against the ways, and most of these lead to higher numbers.
        for k in range(len(stations) - 1, -1, -1):
            names = dict([(name, True) for name in read[k]])
            for way in stations[k][2]:
                names.update(needs_ahead(needs[way], given[k], len(stations[k][0])))
            # Names are never lost from one round to the next, so that none came is told by their number.
            growing = growing or len(names) > len(needs[k])
            needs[k] = names
    return needs


# Of the names needed behind a row those that it leaves to be needed ahead of it: a call in place gives all names of
# its new frame, which lies deeper than the chain goes.
def needs_ahead(names, given, depth):
    return dict([(name, True) for name in names if name != given and name[0] < depth])


def read_at(flows, station):
    chain, wait, ways = station
    if wait:
        return []
    return [(len(chain) - 1, name) for name in reads(flows.row_at(chain[-1]))]


def given_at(flows, station):
    chain, wait, ways = station
    row = flows.row_at(chain[-1])
    if row[0] == "back":
        return (len(chain) - 2, flows.row_at(chain[-2])[1]) if len(chain) > 1 else None
    # A call's X is given by what comes behind it: its wait, or the back that leaves its frame.
    if gives(row) is None or row[0] == "call" and not wait:
        return None
    return (len(chain) - 1, gives(row))


def heads(stations):
    counts = [0] * len(stations)
    # The begin counts as a way.
    counts[0] = 1
    for station in stations:
        for way in station[2]:
            counts[way] += 1
    return [count > 1 for count in counts]
