import unittest
from fractions import Fraction
from itertools import product

from lessonwright.errors import BadPaper, BadSize
from lessonwright.lines import (
    check_closest, check_rising, closest, distance, middle, minus, missed, part, plus, rising, solved, squares, times)
from makers import Steps, is_tuples


def told(number):
    """A part, as it is told, of what Python's own fractions make of it."""
    whole = Fraction(number)
    return whole.numerator, whole.denominator


def some_lots(count, most, wide, seed=1):
    """Some rows of up to so many numbers, none of them far from nought."""
    steps = Steps(seed)
    for _ in range(count):
        yield [steps.below(wide) - wide // 2 for _ in range(steps.below(most + 1))]


def some_told_rows(count, places, seed=1):
    steps = Steps(seed)
    for _ in range(count):
        yield [
            (tuple(steps.below(7) - 3 for _ in range(places)), steps.below(15) - 7)
            for _ in range(1 + steps.below(6))]


class Parts(unittest.TestCase):
    def test_made_small(self):
        self.assertEqual([part(6, 8), part(0, 5), part(7, 1), part(9, 3)], [(3, 4), (0, 1), (7, 1), (3, 1)])
        self.assertTrue(is_tuples(part(6, 8)))

    def test_low_above_nought(self):
        self.assertEqual([part(6, -8), part(-6, -8), part(-6, 8), part(0, -5), part(3, -1)],
                         [(-3, 4), (3, 4), (-3, 4), (0, 1), (-3, 1)])

    def test_low_of_nought(self):
        for top in (0, 1, -3):
            with self.assertRaises(BadSize):
                part(top, 0)
        for asked in (plus, times, minus):
            for one, other in (((1, 0), (1, 2)), ((1, 2), (1, 0)), ((0, 0), (0, 0))):
                with self.assertRaises(BadSize):
                    asked(one, other)
        with self.assertRaises(BadSize):
            squares([(1, 2), (1, 0)])
        with self.assertRaises(BadSize):
            solved([[(1, 0), (1, 1)], [(0, 1), (1, 1)]], [(1, 1), (1, 1)])
        with self.assertRaises(BadSize):
            check_closest([((1,), 1)], [(1, 0)])
        with self.assertRaises(BadSize):
            missed([((1,), 1)], [(1, 0)])
        with self.assertRaises(BadSize):
            check_rising([1], [(1, 0)])

    def test_sums_products_and_differences(self):
        rows = [(top, low) for top in range(-4, 5) for low in (1, 2, 3, 6)]
        for one, other in product(rows, repeat=2):
            mine, theirs = Fraction(*one), Fraction(*other)
            self.assertEqual((plus(one, other), times(one, other), minus(one, other)),
                             (told(mine + theirs), told(mine * theirs), told(mine - theirs)))
        self.assertTrue(is_tuples(plus([1, 2], [1, 3])) and is_tuples(times([1, 2], [2, 1])))

    def test_squares(self):
        self.assertEqual(squares([]), (0, 1))
        self.assertEqual(squares([(1, 2), (-3, 2), (2, 1)]), (13, 2))
        self.assertTrue(is_tuples(squares([[1, 2]])))


class Solved(unittest.TestCase):
    def test_solved(self):
        self.assertEqual(solved([[(2, 1)]], [(3, 1)]), ((3, 2),))
        self.assertEqual(solved([[(1, 1), (1, 1)], [(1, 1), (-1, 1)]], [(3, 1), (0, 1)]), ((3, 2), (3, 2)))
        # Each row makes its own top; rows and places are not exchanged.
        self.assertEqual(solved([[(1, 1), (2, 1)], [(0, 1), (1, 1)]], [(5, 1), (1, 1)]), ((3, 1), (1, 1)))
        self.assertEqual(solved([[(0, 1), (1, 2)], [(1, 3), (0, 1)]], [(1, 1), (2, 1)]), ((6, 1), (2, 1)))
        self.assertTrue(is_tuples(solved([[[2, 1]]], [[3, 1]])))

    def test_more_rows_than_places(self):
        rows = [[(1, 1)], [(2, 1)], [(0, 1)]]
        self.assertEqual(solved(rows, [(3, 1), (6, 1), (0, 1)]), ((3, 1),))
        for tops in ([(3, 1), (5, 1), (0, 1)], [(3, 1), (6, 1), (1, 1)]):
            self.assertIsNone(solved(rows, tops))

    def test_not_the_only_ones_or_none(self):
        self.assertIsNone(solved([[(1, 1), (1, 1)]], [(1, 1)]))
        self.assertIsNone(solved([[(1, 1), (2, 1)], [(2, 1), (4, 1)]], [(1, 1), (2, 1)]))
        self.assertIsNone(solved([[(1, 1), (2, 1)], [(2, 1), (4, 1)]], [(1, 1), (3, 1)]))
        self.assertIsNone(solved([[(0, 1)]], [(0, 1)]))
        self.assertIsNone(solved([[]], [(1, 1)]))

    def test_no_places(self):
        self.assertEqual((solved([], []), solved([[], []], [(0, 1), (0, 1)])), ((), ()))

    def test_some_squares(self):
        steps = Steps(31)
        some = 0
        for _ in range(120):
            rows = [[Fraction(steps.below(7) - 3, 1 + steps.below(3)) for _ in range(3)] for _ in range(3)]
            (a, b, c), (d, e, f), (g, h, i) = rows
            whole = a * (e * i - f * h) - b * (d * i - f * g) + c * (d * h - e * g)
            right = [Fraction(steps.below(9) - 4, 1 + steps.below(4)) for _ in range(3)]
            tops = [sum(mine * theirs for mine, theirs in zip(row, right)) for row in rows]
            found = solved([[told(one) for one in row] for row in rows], [told(one) for one in tops])
            self.assertEqual(found, None if whole == 0 else tuple(told(one) for one in right))
            some += whole == 0
        self.assertTrue(0 < some < 60)


class Closest(unittest.TestCase):
    def test_closest(self):
        self.assertEqual(closest([((1,), 2), ((1,), 5)]), ((7, 2),))
        self.assertEqual(closest([((0, 1), 1), ((1, 1), 3), ((2, 1), 5)]), ((2, 1), (1, 1)))
        self.assertEqual(closest([([0, 1], 0), ([1, 1], 1), ([2, 1], 1)]), ((1, 2), (1, 6)))
        self.assertEqual(closest([((), 3)]), ())
        self.assertTrue(is_tuples(closest([([0, 1], 0), ([1, 1], 1)])))

    def test_weights_that_are_not_the_only_ones(self):
        self.assertIsNone(closest([((1, 1), 2)]))
        self.assertIsNone(closest([((1, 2), 2), ((2, 4), 3), ((3, 6), 1)]))
        self.assertIsNone(closest([((0,), 2)]))

    def test_refused(self):
        for examples in ([], (), [((1,), 1), ((1, 2), 1)], [((), 1), ((1,), 1)]):
            with self.assertRaises(BadSize):
                closest(examples)

    def test_missed(self):
        examples = [((0, 1), 0), ([1, 1], 1), ((2, 1), 1)]
        self.assertEqual(missed(examples, ((1, 2), (1, 6))), ((1, 6), (-1, 3), (1, 6)))
        self.assertEqual(missed(examples, [(0, 1), (0, 1)]), ((0, 1), (-1, 1), (-1, 1)))
        self.assertEqual(missed([], ((1, 2),)), ())
        self.assertTrue(is_tuples(missed(examples, [[0, 1], [0, 1]])))

    def test_check_closest(self):
        examples = [((0, 1), 0), ([1, 1], 1), ((2, 1), 1)]
        self.assertEqual(check_closest(examples, ((1, 2), (1, 6))), (1, 6))
        self.assertEqual(check_closest([], ()), (0, 1))
        self.assertEqual(check_closest([((), 3), ((), -1)], ()), (10, 1))

    def test_weights_not_the_only_ones_are_taken_too(self):
        examples = [((1, 1), 1), ((2, 2), 5)]
        for first in (0, 1, -3):
            other = minus((11, 5), (first, 1))
            self.assertEqual(check_closest(examples, ((first, 1), other)), told(Fraction(9, 5)))

    def test_check_closest_refuses(self):
        examples = [((0, 1), 0), ((1, 1), 1), ((2, 1), 1)]
        for weights in (((1, 2), (1, 5)), ((1, 3), (1, 6)), ((0, 1), (0, 1)), ((0, 1), (2, 3)), ((1, 2),), (),
                        ((1, 2), (1, 6), (0, 1))):
            with self.subTest(weights=weights), self.assertRaises(BadPaper):
                check_closest(examples, weights)
        with self.assertRaises(BadPaper):
            check_closest([((1,), 2)], [(1, 1)])

    def test_none_misses_less(self):
        only = 0
        for places in (1, 2, 3):
            for examples in some_told_rows(30, places, seed=places):
                weights = closest(examples)
                if weights is None:
                    continue
                only += 1
                least = Fraction(*check_closest(examples, weights))
                self.assertEqual(squares(missed(examples, weights)), told(least))
                for off in product((-1, 0, 1), repeat=places):
                    others = [Fraction(*one) + Fraction(more, 3) for one, more in zip(weights, off)]
                    whole = sum((take - sum(one * number for one, number in zip(others, row))) ** 2
                                for row, take in examples)
                    self.assertTrue(whole > least if any(off) else whole == least)
                    if any(off):
                        with self.assertRaises(BadPaper):
                            check_closest(examples, [told(one) for one in others])
        self.assertGreater(only, 40)


class Rising(unittest.TestCase):
    def test_rising(self):
        self.assertEqual(rising([1, 3, 2, 4]), ((1, 1), (5, 2), (5, 2), (4, 1)))
        self.assertEqual(rising((4, 1, 1)), ((2, 1),) * 3)
        self.assertEqual(rising([1, 5, 4, -4]), ((1, 1), (5, 3), (5, 3), (5, 3)))
        self.assertEqual(rising([]), ())
        self.assertTrue(is_tuples(rising([2, 1])))

    def test_rises_or_falls_already(self):
        self.assertEqual(rising([-2, 0, 0, 7]), ((-2, 1), (0, 1), (0, 1), (7, 1)))
        self.assertEqual(rising([7, 3, 0, -8]), ((1, 2),) * 4)
        self.assertEqual(rising([5]), ((5, 1),))

    def test_a_block_falls_below_the_one_before(self):
        # Put together, 4 and 0 fall below the 3 ahead of them.
        self.assertEqual(rising([3, 4, 0]), ((7, 3),) * 3)

    def test_check_rising(self):
        self.assertEqual(check_rising([1, 3, 2, 4], ((1, 1), (5, 2), (5, 2), (4, 1))), (1, 2))
        self.assertEqual(check_rising([], []), (0, 1))
        self.assertEqual(check_rising((2, 2), [(2, 1), (2, 1)]), (0, 1))
        self.assertTrue(is_tuples(check_rising([1], [[1, 1]])))

    def test_check_rising_refuses(self):
        for numbers, parts in (
                ([1, 2], ((1, 1),)), ([1], ((1, 1), (2, 1))), ([], ((0, 1),)),       # not as many
                ([2, 1], ((2, 1), (1, 1))),                                         # parts that fall
                ([1, 2], ((3, 2), (3, 2))),                                         # a beginning that is below
                ([1, 3, 2, 4], ((1, 1), (7, 3), (7, 3), (4, 1))),                   # not the middle
                ([1, 3, 2, 4], ((1, 1), (8, 3), (8, 3), (4, 1))),
                ([3, 1], ((2, 1), (3, 1))), ([3, 1], ((1, 1), (2, 1))), ([1, 2], ((1, 1), (1, 1))),
                ([5], ((4, 1),)), ([5], ((6, 1),)), ([1, 2], ((0, 1), (3, 1))), ([1, 2], ((2, 1), (2, 1)))):
            with self.subTest(numbers=numbers, parts=parts), self.assertRaises(BadPaper):
                check_rising(numbers, parts)

    def closest_rising(self, numbers):
        """The least squares of all parts that rise: by all ways to cut the numbers into blocks, each at its middle."""
        least = None
        for cuts in product((0, 1), repeat=max(len(numbers) - 1, 0)):
            blocks = [[]]
            for place, number in enumerate(numbers):
                if place > 0 and cuts[place - 1]:
                    blocks.append([])
                blocks[-1].append(number)
            middles = [Fraction(sum(block), max(len(block), 1)) for block in blocks]
            if middles == sorted(middles):
                whole = sum((number - one) ** 2 for block, one in zip(blocks, middles) for number in block)
                least = whole if least is None else min(least, whole)
        return least

    def test_none_is_closer(self):
        for numbers in some_lots(80, 7, 9, seed=2):
            parts = rising(numbers)
            rows = [Fraction(*one) for one in parts]
            self.assertEqual(rows, sorted(rows))
            self.assertEqual(check_rising(numbers, parts), told(self.closest_rising(numbers)))
            self.assertEqual(len(parts), len(numbers))

    def test_other_parts_are_refused(self):
        for numbers in product((0, 1, 3), repeat=3):
            right = rising(numbers)
            for parts in product(((0, 1), (1, 2), (1, 1), (4, 3), (3, 2), (2, 1), (3, 1)), repeat=3):
                if parts == right:
                    check_rising(numbers, parts)
                else:
                    with self.assertRaises(BadPaper):
                        check_rising(numbers, parts)


class Middle(unittest.TestCase):
    def test_middle(self):
        self.assertEqual([middle([3]), middle([5, 1]), middle((9, 1, 4)), middle([4, 4, 1, 8]), middle([-3, 7, 0, -5])],
                         [3, 1, 4, 4, -3])

    def test_no_numbers(self):
        for numbers in ([], ()):
            with self.assertRaises(BadSize):
                middle(numbers)

    def test_distance(self):
        self.assertEqual((distance([1, 5, -2], 2), distance([], 4), distance((3,), 3)), (8, 0, 0))

    def test_none_is_nearer(self):
        for numbers in some_lots(60, 8, 11, seed=4):
            if numbers:
                one = middle(numbers)
                ways = [distance(numbers, other) for other in range(-12, 12)]
                self.assertEqual(distance(numbers, one), min(ways))
                below = [number for number in numbers if number < one]
                above = [number for number in numbers if number > one]
                self.assertTrue(2 * len(below) < len(numbers) and 2 * len(above) <= len(numbers))

    def test_what_is_handed_in_is_left(self):
        numbers = [3, 1, 2]
        middle(numbers), rising(numbers), distance(numbers, 2)
        self.assertEqual(numbers, [3, 1, 2])


if __name__ == "__main__":
    unittest.main()
