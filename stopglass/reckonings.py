"""Reckonings: what a value is worth, told by boxes, numbers and signs."""

from stopglass.walkers import value

# Of a reckoning that is a place; one that is set or done may have more.
MOST_LEAVES = 8


def is_leaf(one):
    return one[0] in ("box", "num")


def leaves(one):
    if is_leaf(one):
        return 1
    return leaves(one[1]) + leaves(one[2])


def hangs_on(one, box):
    if is_leaf(one):
        return one == ("box", box)
    return hangs_on(one[1], box) or hangs_on(one[2], box)


def together(sign, left, right):
    if left[0] == "num" and right[0] == "num":
        return ("num", value(sign, left[1], right[1]))
    return (sign, left, right)


def worth(one, boxes):
    if one[0] == "num":
        return one[1]
    if one[0] == "box":
        return boxes.get(one[1], 0)
    return value(one[0], worth(one[1], boxes), worth(one[2], boxes))


# What is put in is not walked again: it speaks of other boxes than those that the dict is asked for.
def put_through(one, news):
    if one[0] == "num":
        return one
    if one[0] == "box":
        return news.get(one[1], one)
    return together(one[0], put_through(one[1], news), put_through(one[2], news))


def boxes_of(one):
    if is_leaf(one):
        return [one[1]] if one[0] == "box" else []
    return boxes_of(one[1]) + boxes_of(one[2])
