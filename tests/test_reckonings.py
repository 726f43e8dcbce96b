"""Reckonings: their leaves, the boxes they hang on, put together, told and put through."""

import itertools
import random
import unittest

from stopglass.reckonings import hangs_on, leaves, put_through, together, worth

from tests.helper import EDGES, SIGNS, Unchanged, sign_value

TOP = 2 ** 48 - 1


def box(k):
    return ("box", k)


def num(v):
    return ("num", v)


def leaning(count, left):
    """A reckoning of so many leaves, boxes 0, 1 and so on, deep to one side."""
    one = box(0)
    for k in range(1, count):
        one = ("-", one, box(k)) if left else ("-", box(k), one)
    return one


def some_reckoning(rng, count):
    if count == 1:
        return box(rng.choice((0, 1, 2, 127))) if rng.random() < 0.6 else num(rng.choice(EDGES))
    part = rng.randint(1, count - 1)
    return (rng.choice(SIGNS), some_reckoning(rng, part), some_reckoning(rng, count - part))


def parts(one):
    return [one] if one[0] in ("box", "num") else parts(one[1]) + parts(one[2])


class LeavesTest(unittest.TestCase):
    def test_one(self):
        self.assertEqual(leaves(box(0)), 1)
        self.assertEqual(leaves(num(7)), 1)
        self.assertIs(type(leaves(num(7))), int)

    def test_up_to_sixteen_and_somewhat_beyond(self):
        for count in range(1, 41):
            self.assertEqual(leaves(leaning(count, True)), count)
            self.assertEqual(leaves(leaning(count, False)), count)

    def test_like_leaves_count_each(self):
        self.assertEqual(leaves(("+", box(1), box(1))), 2)
        self.assertEqual(leaves(("+", ("*", box(1), num(1)), ("*", box(1), num(1)))), 4)

    def test_made_up(self):
        rng = random.Random(1)
        for _ in range(300):
            count = rng.randint(1, 16)
            self.assertEqual(leaves(some_reckoning(rng, count)), count)


class HangsOnTest(unittest.TestCase):
    def test_leaves(self):
        self.assertIs(hangs_on(box(3), 3), True)
        self.assertIs(hangs_on(box(3), 4), False)
        self.assertIs(hangs_on(num(3), 3), False)
        self.assertIs(hangs_on(box(0), 0), True)
        self.assertIs(hangs_on(num(0), 0), False)
        self.assertIs(hangs_on(box(127), 127), True)

    def test_deep(self):
        for left in (True, False):
            one = leaning(16, left)
            for k in range(16):
                self.assertIs(hangs_on(one, k), True)
            self.assertIs(hangs_on(one, 16), False)

    def test_made_up(self):
        rng = random.Random(2)
        for _ in range(300):
            one = some_reckoning(rng, rng.randint(1, 16))
            for k in (0, 1, 2, 3, 127):
                self.assertIs(hangs_on(one, k), box(k) in parts(one))


class TogetherTest(unittest.TestCase):
    def test_two_nums(self):
        for sign, one, other in itertools.product(SIGNS, EDGES, EDGES):
            told = together(sign, num(one), num(other))
            self.assertEqual(told, num(sign_value(sign, one, other)))
            self.assertIs(type(told), tuple)
            self.assertIs(type(told[1]), int)

    def test_one_num_or_none(self):
        for sign in SIGNS:
            for left, right in ((box(1), num(1)), (num(1), box(1)), (box(1), box(1)), (num(0), box(0)),
                                (num(2), ("+", num(1), num(1))), (("+", num(1), num(1)), num(2)),
                                (("+", num(1), num(1)), ("+", num(1), num(1)))):
                told = together(sign, left, right)
                self.assertEqual(told, (sign, left, right))
                self.assertIs(type(told), tuple)


class WorthTest(unittest.TestCase):
    def told(self, one, boxes, expected):
        with Unchanged(self, one, boxes):
            found = worth(one, boxes)
        self.assertEqual(found, expected)
        self.assertIs(type(found), int)

    def test_leaves(self):
        self.told(num(7), {}, 7)
        self.told(num(7), {7: 8}, 7)
        self.told(box(7), {7: 8}, 8)
        self.told(box(7), {8: 7}, 0)
        self.told(box(0), {}, 0)
        self.told(box(127), {127: TOP}, TOP)

    def test_parts(self):
        self.told(("-", box(0), box(1)), {0: 5, 1: 3}, 2)
        self.told(("-", box(1), box(0)), {0: 5, 1: 3}, TOP - 1)
        self.told(("/", num(7), ("-", box(1), num(3))), {1: 3}, 0)
        self.told(("+", ("*", box(0), box(0)), num(1)), {0: TOP}, 2)
        for sign, one, other in itertools.product(SIGNS, EDGES, EDGES):
            self.told((sign, box(1), num(other)), {1: one}, sign_value(sign, one, other))

    def test_deep(self):
        boxes = {k: k * k + 1 for k in range(16)}
        self.told(leaning(16, True), boxes, (boxes[0] - sum(boxes[k] for k in range(1, 16))) % 2 ** 48)
        told = boxes[0]
        for k in range(1, 16):
            told = (boxes[k] - told) % 2 ** 48
        self.told(leaning(16, False), boxes, told)

    def test_boxes_not_told_are_not_added(self):
        boxes = {}
        worth(("+", box(1), box(2)), boxes)
        self.assertEqual(boxes, {})


class PutThroughTest(unittest.TestCase):
    def told(self, one, news, expected):
        with Unchanged(self, one, news):
            found = put_through(one, news)
        self.assertEqual(found, expected)
        self.assertIs(type(found), tuple)

    def test_leaves(self):
        self.told(num(1), {1: num(2)}, num(1))
        self.told(box(1), {1: num(2)}, num(2))
        self.told(box(1), {2: num(2)}, box(1))
        self.told(box(1), {}, box(1))
        self.told(box(1), {1: box(2), 2: box(1)}, box(2))

    def test_all_at_once(self):
        self.told(("-", box(1), box(2)), {1: box(2), 2: box(1)}, ("-", box(2), box(1)))
        self.told(("+", box(0), box(0)), {0: ("+", box(0), box(0))}, ("+", ("+", box(0), box(0)), ("+", box(0), box(0))))

    def test_parts_are_put_together_again(self):
        self.told(("+", box(1), num(3)), {1: num(4)}, num(7))
        self.told(("-", num(3), box(1)), {1: num(4)}, num(TOP))
        self.told(("*", ("+", box(1), num(3)), box(2)), {1: num(4)}, ("*", num(7), box(2)))
        self.told(("*", ("+", box(1), num(3)), box(2)), {1: num(4), 2: num(2)}, num(14))

    def test_its_own_parts_without_boxes_too(self):
        self.told(("+", num(1), num(2)), {}, num(3))
        self.told(("*", ("+", num(1), num(2)), box(0)), {5: num(1)}, ("*", num(3), box(0)))
        self.told(("*", ("+", num(1), num(2)), ("/", num(9), num(0))), {}, num(0))

    def test_what_is_put_in_stands_as_it_is(self):
        apart = ("+", num(1), num(2))
        self.told(box(0), {0: apart}, apart)
        self.told(("*", box(0), num(2)), {0: apart}, ("*", apart, num(2)))
        self.told(("*", box(0), box(0)), {0: apart}, ("*", apart, apart))
        self.told(("*", box(0), apart), {0: apart}, ("*", apart, num(3)))
        self.told(box(0), {0: ("+", box(1), num(1)), 1: num(5)}, ("+", box(1), num(1)))

    def test_deep(self):
        for left in (True, False):
            one = leaning(16, left)
            self.told(one, {}, one)
            told = put_through(one, {k: num(k) for k in range(16)})
            self.assertEqual(told, num(worth(one, {k: k for k in range(16)})))
            self.assertEqual(leaves(put_through(one, {15: leaning(16, True)})), 31)

    def test_made_up(self):
        rng = random.Random(4)
        for _ in range(500):
            one = some_reckoning(rng, rng.randint(1, 16))
            news = {k: some_reckoning(rng, rng.randint(1, 4)) for k in (0, 1, 2, 127) if rng.random() < 0.6}
            boxes = {k: rng.choice(EDGES) for k in (0, 1, 2, 127)}
            with Unchanged(self, news):
                told = put_through(one, news)
            behind = {k: worth(news[k], boxes) if k in news else boxes[k] for k in boxes}
            self.assertEqual(worth(told, boxes), worth(one, behind))
            self.assertEqual(put_through(one, {k: num(boxes[k]) for k in boxes}), num(worth(one, boxes)))


if __name__ == "__main__":
    unittest.main()
