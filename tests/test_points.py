import unittest
from itertools import product

from lessonwright.errors import BadExample, BadSize
from lessonwright.points import (
    all_points, apart, check_examples, check_point, first_unlike, flipped, from_ones, is_rising, is_under, join, meet,
    ones, table_of)


class All(unittest.TestCase):
    def test_by_their_numbers(self):
        self.assertEqual(all_points(2), ((0, 0), (0, 1), (1, 0), (1, 1)))
        for many in range(11):
            points = all_points(many)
            self.assertEqual(points, tuple(product((0, 1), repeat=many)))

    def test_kinds(self):
        self.assertIsInstance(all_points(1), tuple)
        self.assertIsInstance(all_points(1)[0], tuple)

    def test_no_places(self):
        self.assertEqual(all_points(0), ((),))

    def test_refuses_past_ten_and_below_nought(self):
        for many in (11, 100, -1):
            with self.subTest(many=many), self.assertRaises(BadSize):
                all_points(many)


class Checked(unittest.TestCase):
    def test_point_as_a_tuple(self):
        self.assertEqual(check_point([0, 1, 1], 3), (0, 1, 1))
        self.assertEqual(check_point((), 0), ())
        self.assertIsInstance(check_point([0], 1), tuple)
        self.assertEqual(len(check_point([1] * 20, 20)), 20)

    def test_refuses_other_lengths_and_bits(self):
        for point in ((), (0,), (0, 1, 0), (0, 2), (-1, 0), ("0", 1), (None, 0)):
            with self.subTest(point=point), self.assertRaises(BadExample):
                check_point(point, 2)

    def test_examples(self):
        examples = [([1, 0], True), ((0, 0), False), [(1, 0), True]]
        found = check_examples(examples, 2)
        self.assertIsInstance(found, dict)
        self.assertEqual(list(found.items()), [((1, 0), True), ((0, 0), False)])
        self.assertEqual(check_examples([], 3), {})
        self.assertEqual(check_examples((((), True),), 0), {(): True})
        self.assertEqual(examples, [([1, 0], True), ((0, 0), False), [(1, 0), True]])

    def test_examples_refuses_points_told_both_ways(self):
        for examples in ([((0, 1), True), ([0, 1], False)], [((1, 1), False), ((0, 0), True), ((1, 1), True)]):
            with self.assertRaises(BadExample):
                check_examples(examples, 2)

    def test_examples_refuses_what_is_no_point(self):
        for point in ((0,), (0, 1, 1), (0, 3)):
            with self.assertRaises(BadExample):
                check_examples([((0, 1), True), (point, True)], 2)


class Ordered(unittest.TestCase):
    def test_is_under(self):
        self.assertIs(is_under((0, 1, 0), (0, 1, 1)), True)
        self.assertIs(is_under((0, 1, 0), (0, 1, 0)), True)
        self.assertIs(is_under((0, 1, 1), (0, 1, 0)), False)
        self.assertIs(is_under((1, 0), (0, 1)), False)
        self.assertIs(is_under((), ()), True)

    def test_meet_and_join(self):
        self.assertEqual(meet((0, 1, 1, 0), [1, 1, 0, 0]), (0, 1, 0, 0))
        self.assertEqual(join((0, 1, 1, 0), [1, 1, 0, 0]), (1, 1, 1, 0))
        self.assertEqual((meet((), ()), join((), ())), ((), ()))
        self.assertIsInstance(meet([1], [1]), tuple)
        self.assertIsInstance(join([1], [1]), tuple)

    def test_under_is_what_meet_and_join_tell(self):
        for one, other in product(all_points(3), repeat=2):
            self.assertEqual(is_under(one, other), meet(one, other) == one)
            self.assertEqual(is_under(one, other), join(one, other) == other)

    def test_ones_and_back(self):
        self.assertEqual(ones([1, 0, 1]), (0, 2))
        self.assertEqual(ones((0, 0)), ())
        self.assertEqual(from_ones([2, 0], 4), (1, 0, 1, 0))
        self.assertEqual(from_ones((), 2), (0, 0))
        self.assertEqual(from_ones((), 0), ())
        for point in all_points(4):
            self.assertEqual(from_ones(ones(point), 4), point)

    def test_flipped(self):
        self.assertEqual(flipped((0, 1, 0), 1), (0, 0, 0))
        self.assertEqual(flipped([0, 1, 0], 2), (0, 1, 1))
        point = [0, 1]
        flipped(point, 0)
        self.assertEqual(point, [0, 1])

    def test_apart(self):
        self.assertEqual(apart((0, 1, 1), [1, 1, 0]), 2)
        self.assertEqual(apart((0, 1), (0, 1)), 0)
        self.assertEqual(apart((), ()), 0)


class Rules(unittest.TestCase):
    def test_table_of(self):
        self.assertEqual(table_of(lambda point: point[0] == 1, 2), (False, False, True, True))
        self.assertEqual(table_of(sum, 2), (0, 1, 1, 2))
        self.assertEqual(table_of(lambda point: True, 0), (True,))

    def test_is_rising(self):
        self.assertIs(is_rising(lambda point: point[0] == 1 or point[1:] == (1, 1), 3), True)
        self.assertIs(is_rising(lambda point: point[1] == 0, 3), False)
        self.assertIs(is_rising(lambda point: sum(point) == 1, 2), False)
        self.assertIs(is_rising(lambda point: False, 3), True)
        self.assertIs(is_rising(lambda point: True, 0), True)

    def test_is_rising_over_all_rules_of_two_places(self):
        for told in product((False, True), repeat=4):
            table = dict(zip(all_points(2), told))
            rises = all(table[high] for low in table for high in table if table[low] and is_under(low, high))
            self.assertEqual(is_rising(table.get, 2), rises)

    def test_first_unlike(self):
        self.assertEqual(first_unlike(lambda point: point[0] == 1, lambda point: point[1] == 1, 2), (0, 1))
        self.assertEqual(first_unlike(lambda point: True, lambda point: sum(point) < 3, 3), (1, 1, 1))
        self.assertIsNone(first_unlike(max, lambda point: int(1 in point), 3))
        self.assertEqual(first_unlike(lambda point: True, lambda point: False, 0), ())

    def test_refuse_past_ten(self):
        for asked in (lambda many: table_of(all, many), lambda many: is_rising(all, many),
                      lambda many: first_unlike(all, any, many)):
            for many in (11, -1):
                with self.assertRaises(BadSize):
                    asked(many)


if __name__ == "__main__":
    unittest.main()
