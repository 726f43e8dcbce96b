"""Homes: the box in which each name is where ways come together; names that never meet may share one."""

from stopglass.flows import Flows
from stopglass.plans import needs_in


def homes(program, stations):
    flows = Flows(program)
    return homes_in(flows, stations, needs_in(flows, stations))


def homes_in(flows, stations, needs):
    params = [(0, name) for name in flows.params_of[stations[0][0][0][0]]]
    meets = meetings(params, stations, needs)
    found = {}
    for name in params + sorted([name for name in meets if name not in params]):
        found[name] = least_beside([found[other] for other in meets[name] if other in found])
    return found


# For each param and each name needed at some station a dict that has the names that it meets, and itself.
def meetings(params, stations, needs):
    begun = dict([(name, True) for name in params])
    begun.update(needs[0])
    groups = [begun]
    for station in stations:
        group = {}
        for way in station[2]:
            group.update(needs[way])
        groups.append(group)
    meets = {}
    for group in groups:
        for name in group:
            meets.setdefault(name, {}).update(group)
    return meets


def least_beside(taken):
    number = 0
    while number in taken:
        number += 1
    return number
