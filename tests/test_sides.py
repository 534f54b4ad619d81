import unittest
from itertools import product

from lessonwright.errors import BadPaper, BadSize
from lessonwright.sides import (
    Parter, check_mixed, check_parted, check_signed, inner, lifted, margin, mixed_away, parted, side_bound, squared)
from makers import Steps

EITHER = [((0, 0, 1), -1), ((0, 1, 1), 1), ((1, 0, 1), 1), ((1, 1, 1), -1)]
BAD = ([((1, 2), 1), ((1,), 1)], [((1, 2), 0)], [((1,), 2), ((1,), 1)], [((), 1), ((0,), -1)])


def some_signed(count, places, seed=1):
    steps = Steps(seed)
    for _ in range(count):
        weights = [steps.below(7) - 3 for _ in range(places)]
        rows = [tuple(steps.below(7) - 3 for _ in range(places)) for _ in range(8)]
        sums = [sum(weight * part for weight, part in zip(weights, row)) for row in rows]
        yield weights, [(row, 1 if whole > 0 else -1) for row, whole in zip(rows, sums) if whole != 0]


class Signed(unittest.TestCase):
    def test_inner(self):
        self.assertEqual(inner((1, -2, 3), [4, 5, 6]), 12)
        self.assertEqual(inner((), ()), 0)

    def test_check_signed(self):
        self.assertEqual(check_signed([([1, 2], 1), [(0, -1), -1]]), [((1, 2), 1), ((0, -1), -1)])
        self.assertIsInstance(check_signed(()), list)
        self.assertEqual(check_signed([]), [])

    def test_refuses_other_signs_and_unlike_lengths(self):
        for examples in BAD:
            for asked in (check_signed, parted, lambda told: margin(told, (1, 1)), mixed_away,
                          lambda told: check_parted(told, (1, 1)), lambda told: side_bound(0, told, (1, 1)),
                          lambda told: check_mixed(told, (1, 1))):
                with self.subTest(examples=examples), self.assertRaises(BadSize):
                    asked(examples)

    def test_lifted(self):
        self.assertEqual(lifted([2, 3]), (2, 3, 1))
        self.assertEqual(lifted(()), (1,))

    def test_squared(self):
        self.assertEqual(squared([2, 3, 5]), (2, 3, 5, 4, 6, 10, 9, 15, 25))
        self.assertEqual(squared((-3,)), (-3, 9))
        self.assertEqual(squared(()), ())


class Parting(unittest.TestCase):
    def test_fields(self):
        parter = Parter(2)
        self.assertEqual((parter.weights, parter.mistakes), ((0, 0), 0))
        self.assertIsInstance(parter.weights, tuple)

    def test_sign(self):
        parter = Parter(2)
        self.assertEqual(parter.sign((1, 1)), -1)
        parter.see((1, -1), 1)
        self.assertEqual((parter.sign([2, 1]), parter.sign((1, 1)), parter.sign((0, 1))), (1, -1, -1))

    def test_takes_in_on_the_wrong_side_and_on_the_edge(self):
        parter = Parter(2)
        self.assertIs(parter.see([1, 2], -1), True)
        self.assertEqual((parter.weights, parter.mistakes), ((-1, -2), 1))
        self.assertIsInstance(parter.weights, tuple)
        self.assertIs(parter.see((1, 0), -1), False)
        self.assertEqual((parter.weights, parter.mistakes), ((-1, -2), 1))
        self.assertIs(parter.see((2, -1), 1), True)
        self.assertEqual((parter.weights, parter.mistakes), ((1, -3), 2))
        self.assertIs(parter.see((1, 0), -1), True)
        self.assertEqual((parter.weights, parter.mistakes), ((0, -3), 3))

    def test_parted(self):
        self.assertEqual(parted([((1, 1), 1), ((1, -1), -1)]), (0, 2))
        self.assertEqual(parted([]), ())
        self.assertEqual(parted([((2,), -1)]), (-2,))
        self.assertIsNone(parted(EITHER))
        self.assertIsNone(parted([((0, 0), 1)]))
        self.assertIsNone(parted([((1,), 1), ((1,), -1)], most=50))

    def test_no_more_than_so_many_mistakes(self):
        examples = [((1, 1), 1), ((1, -1), -1)]
        self.assertEqual([parted(examples, most) for most in (0, 1, 2, 3)], [None, None, (0, 2), (0, 2)])
        self.assertEqual(parted([], 0), ())

    def test_margin(self):
        self.assertEqual(margin([((1, 2), 1), ((0, 1), -1)], (3, -1)), 1)
        self.assertEqual(margin([((1, 2), 1), ((0, 1), -1)], [0, 1]), -1)
        self.assertIsNone(margin([], (1,)))

    def test_check_parted(self):
        examples = [((1, 2), 1), ((0, 1), -1)]
        self.assertEqual(check_parted(examples, (5, -2)), 1)
        self.assertIsNone(check_parted([], (1, 2)))
        for weights in ((2, -1), (0, 0), (0, 1), (-1, -1)):
            with self.assertRaises(BadPaper):
                check_parted(examples, weights)

    def test_side_bound(self):
        examples = [((3, 4), 1)]
        # The margin is 3: mistakes by nine are no more than twenty-five by one.
        self.assertEqual([side_bound(mistakes, examples, (1, 0)) for mistakes in (0, 2, 3)], [True, True, False])
        self.assertEqual([side_bound(mistakes, [((1, 0), 1), ((0, 2), -1)], (1, -1)) for mistakes in (8, 9)],
                         [True, False])
        self.assertIs(side_bound(0, [], ()), True)

    def test_no_more_mistakes_than_told_on_any_row(self):
        rounds = 0
        for weights, examples in some_signed(60, 3, seed=7):
            parter = Parter(3)
            moved = True
            while moved:
                moved = any([parter.see(row, sign) for row, sign in examples])
                if examples:
                    self.assertTrue(side_bound(parter.mistakes, examples, weights))
                rounds += 1
            self.assertEqual(parted(examples), parter.weights if examples else ())
            if examples:
                self.assertGreater(check_parted(examples, parter.weights), 0)
                self.assertTrue(side_bound(parter.mistakes, examples, parter.weights))
        self.assertGreater(rounds, 120)


class Mixed(unittest.TestCase):
    def test_first_shares(self):
        self.assertEqual(mixed_away(EITHER), (1, 1, 1, 1))
        self.assertEqual(mixed_away([((1, 0), 1), ((0, 0), -1), ((0, 1), 1)]), (0, 1, 0))
        self.assertEqual(mixed_away([((1,), 1), ((2,), -1), ((3,), -1)]), (2, 1, 0))
        self.assertEqual(mixed_away([((3,), 1), ((2,), -1)]), (2, 3))
        self.assertIsNone(mixed_away([((3,), 1), ((2,), -1)], 2))
        self.assertIsNone(mixed_away([((1, 1), 1), ((1, -1), -1)]))
        self.assertIsNone(mixed_away([]))
        self.assertIsNone(mixed_away([((0,), 1)], 0))
        self.assertIsInstance(mixed_away(EITHER), tuple)

    def test_first_shares_against_all(self):
        steps = Steps(12)
        some = 0
        for _ in range(150):
            examples = [(tuple(steps.below(5) - 2 for _ in range(2)), 1 - 2 * steps.below(2)) for _ in range(4)]
            good = [shares for shares in product(range(4), repeat=4) if any(shares) and all(
                sum(share * sign * row[place] for share, (row, sign) in zip(shares, examples)) == 0
                for place in range(2))]
            self.assertEqual(mixed_away(examples), good[0] if good else None)
            some += bool(good)
        self.assertTrue(20 < some < 150)

    def test_either_weights_or_shares(self):
        for examples in product(product(product((-1, 0, 1), repeat=2), (1, -1)), repeat=3):
            shares = mixed_away(examples)
            if shares is None:
                self.assertGreater(check_parted(examples, parted(examples)), 0)
            else:
                self.assertIs(check_mixed(examples, shares), True)
                self.assertIsNone(parted(examples, 30))

    def test_check_mixed(self):
        self.assertIs(check_mixed(EITHER, [1, 1, 1, 1]), True)
        self.assertIs(check_mixed(EITHER, (2, 2, 2, 2)), True)
        self.assertIs(check_mixed([((), 1)], (1,)), True)

    def test_refuses_shares_that_show_nothing(self):
        for shares in ((0, 0, 0, 0), (1, 1, 1), (1, 1, 1, 1, 0), (1, 1, 1, 2), (-1, -1, -1, -1), (2, 1, 1, 1),
                       (1, -1, 1, -1)):
            with self.subTest(shares=shares), self.assertRaises(BadPaper):
                check_mixed(EITHER, shares)
        for shares in ((), (1,)):
            with self.assertRaises(BadPaper):
                check_mixed([], shares)
        with self.assertRaises(BadPaper):
            check_mixed([((1,), 1), ((1,), 1)], (2, -2))
        # One share below nought is enough, also where all in all is above.
        with self.assertRaises(BadPaper):
            check_mixed([((1,), 1), ((2,), 1)], (2, -1))


if __name__ == "__main__":
    unittest.main()
