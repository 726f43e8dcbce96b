"""Whether marks fit their program, and whether the begin of a function's code holds."""

from stopglass.flows import Flows
from stopglass.reckonings import boxes_of, put_through


def chain_fits(program, name, chain):
    return is_chain(Flows(program), name, chain)


def is_chain(flows, name, chain):
    if len(chain) == 0 or chain[0][0] != name:
        return False
    if not all([is_at_stop(flows, frame) for frame in chain]):
        return False
    for frame, inner in zip(chain, chain[1:]):
        row = flows.row_at(frame)
        if row[0] != "call" or row[2] != inner[0]:
            return False
    return True


def is_at_stop(flows, frame):
    function, row = frame
    if function not in flows.rows_of or row < 0 or row >= len(flows.rows_of[function]):
        return False
    return flows.row_at(frame)[0] not in ("else", "end")


def mark_fits(flows, name, spot, mark):
    chain, views = mark
    if not is_chain(flows, name, chain):
        return False
    if spot[1][0] == "wait" and flows.row_at(chain[-1])[0] != "call":
        return False
    return [len(places) for places in views] == [len(flows.names_in[frame[0]]) for frame in chain]


def begin_holds(program, name, spots, marks):
    return is_begin(Flows(program), name, spots, marks)


def is_begin(flows, name, spots, marks):
    chain, views = marks[0]
    if spots[0][1][0] == "wait" or chain != ((name, 0),):
        return False
    count = len(flows.params_of[name])
    for k, place in enumerate(views[0]):
        # The params stand first among the names.
        begun = ("box", k) if k < count else ("num", 0)
        if place is not None and at_begin(place, count) != begun:
            return False
    return True


def at_begin(place, count):
    empty = [box for box in boxes_of(place) if box >= count]
    return put_through(place, dict([(box, ("num", 0)) for box in empty]))
