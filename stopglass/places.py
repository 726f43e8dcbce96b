"""What each name is behind a row, told by the places that the names have ahead of it.

A name is told by level and text: (0, "a") is a in the chain's first frame.
"""

from stopglass.flows import Flows
from stopglass.plans import is_in_place
from stopglass.steps import entered, made_by, place_of

# What a get, a new or a call brings: no box of any frame has this number.
OWN_SIGN = ("box", -1)


def behind(program, chain, wait, places):
    return behind_in(Flows(program), chain, wait, places)


def behind_in(flows, chain, wait, places):
    row = flows.row_at(chain[-1])
    level = len(chain) - 1
    named = names_at_last(flows, chain, places)
    if wait or row[0] in ("get", "new"):
        return with_place(places, (level, row[1]), OWN_SIGN)
    if row[0] in ("copy", "op"):
        return with_place(places, (level, row[1]), made_by(row, named))
    if row[0] == "call" and is_in_place(flows, chain):
        found = dict(places)
        for name, place in entered(flows, row, [named])[-1].items():
            found[(level + 1, name)] = place
        return found
    if row[0] == "back" and level > 0:
        outer = dict([(name, place) for name, place in places.items() if name[0] < level])
        return with_place(outer, (level - 1, flows.row_at(chain[-2])[1]), place_of(named, row[1]))
    return dict(places)


def names_at_last(flows, chain, places):
    level = len(chain) - 1
    return dict([(name, places[(level, name)]) for name in flows.names_in[chain[-1][0]]])


def with_place(places, name, place):
    found = dict(places)
    found[name] = place
    return found
