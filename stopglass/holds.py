"""Whether code and table hold for a program."""

from stopglass.fits import is_begin, mark_fits
from stopglass.flows import Flows
from stopglass.steps import Step

# Where the numbers of spots of an act stand in it.
SPOT_PLACES = {
    "go": (1,),
    "if": (2, 3),
    "out": (2,),
    "put": (4,),
    "get": (4,),
    "new": (2,),
    "call": (3,),
    "wait": (2,),
    "back": (),
}


def spot_holds(program, spots, marks, k):
    return Step(Flows(program), spots, marks, k).stands()


def holds(program, code, table):
    names = [function[0] for function in program]
    if [entry[0] for entry in code] != names or [entry[0] for entry in table] != names:
        return False
    flows = Flows(program)
    for name, coded, tabled in zip(names, code, table):
        if not function_holds(flows, name, coded[1], tabled[1]):
            return False
    return True


# Each of these leans on the ones ahead of it: a spot is looked at only where all that it may lead to is there.
def function_holds(flows, name, spots, marks):
    if len(spots) == 0 or len(marks) != len(spots):
        return False
    if not all([spot_is_sound(spot, len(spots)) for spot in spots]):
        return False
    if not all([mark_fits(flows, name, spot, mark) for spot, mark in zip(spots, marks)]):
        return False
    if not is_begin(flows, name, spots, marks):
        return False
    return all([Step(flows, spots, marks, k).stands() for k in range(len(spots))])


def spot_is_sound(spot, count):
    sets, act = spot
    boxes = [pair[0] for pair in sets]
    if len(set(boxes)) != len(boxes):
        return False
    return all([act[place] >= 0 and act[place] < count for place in SPOT_PLACES[act[0]]])
