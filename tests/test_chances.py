import unittest
from fractions import Fraction
from itertools import permutations, product

from lessonwright.chances import Counts, counted, shared
from lessonwright.errors import BadExample, BadSize
from makers import Steps, is_tuples

SOME = [((0, 1), "b"), ((1, 1), "a"), ((0, 0), "b"), ((0, 1), "b"), ((1, 0), "a")]


def some_told(count, most, seed=1):
    steps = Steps(seed)
    for _ in range(count):
        yield [(tuple(steps.below(2) for _ in range(3)), "abc"[steps.below(3)]) for _ in range(steps.below(most + 1))]


def told_anew(examples, many):
    """What is shown of the counts of examples, by going over them all."""
    return tuple(
        (one, len([point for point, other in examples if other == one]),
         tuple(sum(point[place] for point, other in examples if other == one) for place in range(many)))
        for one in sorted({one for _, one in examples}))


def weight_anew(examples, answer, point):
    points = [known for known, one in examples if one == answer]
    top, low = len(points), 1
    for place, bit in enumerate(point):
        top *= len([known for known in points if known[place] == bit]) + 1
        low *= len(points) + 2
    return top, low


class Put(unittest.TestCase):
    def test_nothing_counted(self):
        counts = Counts(2)
        self.assertEqual((counts.many, counts.told, counts.ones), (2, {}, {}))
        self.assertEqual([type(part) for part in (counts.told, counts.ones)], [dict, dict])
        self.assertEqual((counts.answers(), counts.shown()), ((), ()))
        self.assertEqual(counts.weight("a", (0, 1)), (0, 4))
        self.assertIs(counts.can_take("a", 0, 0), False)

    def test_put(self):
        counts = Counts(2)
        self.assertIsNone(counts.put([0, 1], "b"))
        counts.put((1, 1), "a")
        counts.put((1, 1), "b")
        self.assertEqual(counts.shown(), (("a", 1, (1, 1)), ("b", 2, (1, 2))))
        self.assertEqual(counts.answers(), ("a", "b"))
        self.assertTrue(is_tuples(counts.shown()) and is_tuples(counts.answers()))
        self.assertEqual(counts.told, {"a": 1, "b": 2})

    def test_counted(self):
        self.assertEqual(counted(SOME, 2).shown(), (("a", 2, (2, 1)), ("b", 3, (0, 2))))
        self.assertEqual(counted([], 2).shown(), ())
        self.assertEqual(counted([((), True), ((), False), ((), True)], 0).shown(), ((False, 1, ()), (True, 2, ())))
        with self.assertRaises(BadExample):
            counted([((0, 1), "a"), ((0,), "a")], 2)

    def test_refused_changes_nothing(self):
        counts = counted(SOME, 2)
        for point in ((), (0,), (0, 1, 1), (0, 2), (-1, 0)):
            for asked in (lambda: counts.put(point, "a"), lambda: counts.put(point, "new"),
                          lambda: counts.take(point, "a"), lambda: counts.weight("a", point),
                          lambda: counts.likeliest(point), lambda: counts.chance("a", point)):
                with self.subTest(point=point), self.assertRaises(BadExample):
                    asked()
        self.assertEqual(counts.shown(), told_anew(SOME, 2))

    def test_put_in_any_order(self):
        for rows in permutations(SOME):
            self.assertEqual(counted(rows, 2).shown(), told_anew(SOME, 2))


class Take(unittest.TestCase):
    def test_take(self):
        counts = counted(SOME, 2)
        self.assertIsNone(counts.take([0, 1], "b"))
        self.assertEqual(counts.shown(), (("a", 2, (2, 1)), ("b", 2, (0, 1))))
        counts.take((1, 0), "a")
        counts.take((1, 1), "a")
        # What is counted no more is as what never came.
        self.assertEqual((counts.shown(), counts.answers()), ((("b", 2, (0, 1)),), ("b",)))
        self.assertEqual(counts.weight("a", (1, 1)), (0, 4))

    def test_can_take(self):
        counts = counted(SOME, 2)
        self.assertEqual([counts.can_take(*told) for told in product("abc", (0, 1), (0, 1))], [
            False, True, True, True,        # both of "a" have a one at place nought
            True, False, True, True,        # none of "b" has one
            False, False, False, False])

    def test_what_is_not_counted_is_refused(self):
        counts = counted(SOME, 2)
        for point, answer in (((0, 1), "c"), ((0, 1), "a"), ((0, 0), "a"), ((1, 1), "b"), ((1, 0), "b")):
            with self.assertRaises(BadExample):
                counts.take(point, answer)
            self.assertEqual(counts.shown(), told_anew(SOME, 2))
        with self.assertRaises(BadExample):
            Counts(0).take((), "a")
        for _ in range(2):
            counts.take((1, 1) if counts.can_take("a", 1, 1) else (1, 0), "a")
        for point in product((0, 1), repeat=2):
            with self.assertRaises(BadExample):
                counts.take(point, "a")
        self.assertEqual(counts.shown(), (("b", 3, (0, 2)),))

    def test_taken_in_any_order(self):
        for rows in permutations(SOME):
            counts = counted(SOME, 2)
            for place, (point, answer) in enumerate(rows):
                counts.take(point, answer)
                self.assertEqual(counts.shown(), told_anew(rows[place + 1:], 2))
            self.assertEqual((counts.told, counts.ones), ({}, {}))

    def test_right_anew_after_each_put_and_take(self):
        steps = Steps(14)
        for examples in some_told(25, 12, seed=3):
            counts, left = Counts(3), []
            for point, answer in examples:
                counts.put(point, answer)
                left.append((point, answer))
                if steps.below(3) == 0:
                    counts.take(*left.pop(steps.below(len(left))))
                self.assertEqual(counts.shown(), told_anew(left, 3))
                for one, at in product("abc", product((0, 1), repeat=3)):
                    self.assertEqual(counts.weight(one, at), weight_anew(left, one, at))


class Chances(unittest.TestCase):
    def test_weight(self):
        counts = counted(SOME, 2)
        self.assertEqual(counts.weight("a", (1, 0)), (2 * 3 * 2, 16))
        self.assertEqual(counts.weight("b", [1, 1]), (3 * 1 * 3, 25))
        self.assertTrue(is_tuples(counts.weight("b", [1, 1])))
        # An answer that never came.
        self.assertEqual(counts.weight("c", (0, 0)), (0, 4))
        self.assertEqual(counted([((), True)], 0).weight(True, ()), (1, 1))

    def test_likeliest(self):
        counts = counted(SOME, 2)
        self.assertEqual([counts.likeliest(point) for point in product((0, 1), repeat=2)], ["b", "b", "a", "a"])
        self.assertEqual(counted([((1,), "z")], 1).likeliest([0]), "z")

    def test_alike_weights_go_by_the_order(self):
        self.assertEqual(counted([((1,), "b"), ((1,), "a")], 1).likeliest((1,)), "a")
        self.assertIs(counted([((0,), True), ((1,), False), ((0,), False), ((1,), True)], 1).likeliest((1,)), False)

    def test_no_answers(self):
        counts = Counts(1)
        counts.put((1,), "a")
        counts.take((1,), "a")
        for empty in (Counts(1), counts):
            with self.assertRaises(BadSize):
                empty.likeliest((1,))
            with self.assertRaises(BadSize):
                empty.chance("a", (1,))

    def test_chance(self):
        counts = counted(SOME, 2)
        whole = Fraction(12, 16) + Fraction(3 * 1 * 2, 25)
        part = Fraction(12, 16) / whole
        self.assertEqual(counts.chance("a", (1, 0)), (part.numerator, part.denominator))
        self.assertEqual(counts.chance("c", (1, 0)), (0, 1))
        self.assertEqual(counted([((1,), "z")], 1).chance("z", (0,)), (1, 1))
        self.assertTrue(is_tuples(counts.chance("a", [1, 0])))

    def test_chances_of_all_are_one(self):
        for examples in some_told(30, 10, seed=8):
            counts = counted(examples, 3)
            for point in product((0, 1), repeat=3):
                weights = {one: Fraction(*weight_anew(examples, one, point)) for one in "abc"}
                if not examples:
                    continue
                whole = sum(weights.values())
                for one in "abc":
                    told = weights[one] / whole
                    self.assertEqual(counts.chance(one, point), (told.numerator, told.denominator))
                self.assertEqual(sum(Fraction(*counts.chance(one, point)) for one in counts.answers()), 1)
                most = max(weights.values())
                self.assertEqual(counts.likeliest(point), min(one for one in "abc" if weights[one] == most))

    def test_shared(self):
        self.assertEqual([shared(12, 18), shared(0, 5), shared(5, 0), shared(7, 3)], [6, 5, 5, 1])


if __name__ == "__main__":
    unittest.main()
