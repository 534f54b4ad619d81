import unittest
from fractions import Fraction
from itertools import product

from lessonwright.errors import BadSize
from lessonwright.nears import (
    answer, answers_all, by_middles, check_rows, far, fewer_examples, left_out, middle_of, nearest)
from makers import Steps, is_tuples

LINE = [((0,), "a"), ((2,), "b"), ((4,), "b"), ((10,), "a")]
BAD = ([], (), [((1, 2), "a"), ((1,), "b")], [((), 1), ((0,), 1)])


def some_rows(count, most, seed=1):
    """Some rows of told points of two small numbers; one point may be told in several ways."""
    steps = Steps(seed)
    for _ in range(count):
        yield [((steps.below(5) - 2, steps.below(5)), "abc"[steps.below(3)]) for _ in range(1 + steps.below(most))]


class Rows(unittest.TestCase):
    def test_check_rows(self):
        self.assertEqual(check_rows([([1, 2], "a"), [(3, -4), "b"]]), [((1, 2), "a"), ((3, -4), "b")])
        self.assertIsInstance(check_rows((((1,), True),)), list)
        self.assertEqual(check_rows([((), 1), ((), 2)]), [((), 1), ((), 2)])

    def test_refused(self):
        for examples in BAD:
            for asked in (check_rows, lambda told: nearest(told, (1, 1), 1), lambda told: answer(told, (1, 1), 1),
                          lambda told: left_out(told, 1), fewer_examples, lambda told: answers_all(told, [0]),
                          lambda told: by_middles(told, (1, 1))):
                with self.subTest(examples=examples), self.assertRaises(BadSize):
                    asked(examples)

    def test_far(self):
        self.assertEqual((far((1, 2), [4, -2]), far((), ()), far((3,), (3,))), (25, 0, 0))


class Nearest(unittest.TestCase):
    def test_nearest(self):
        self.assertEqual(nearest(LINE, (9,), 2), (3, 2))
        self.assertEqual(nearest(LINE, [4], 4), (2, 1, 0, 3))
        self.assertTrue(is_tuples(nearest(LINE, [4], 4)))

    def test_those_alike_by_their_places(self):
        self.assertEqual(nearest(LINE, (3,), 1), (1,))
        self.assertEqual(nearest(LINE, (1,), 3), (0, 1, 2))
        self.assertEqual(nearest(LINE, (7,), 2), (2, 3))
        self.assertEqual(nearest([((1,), 0), ((0,), 1), ((1,), 2)], (1,), 2), (0, 2))

    def test_too_many(self):
        for many in (0, -1, 5, 100):
            for asked in (nearest, answer):
                with self.assertRaises(BadSize):
                    asked(LINE, (1,), many)
        self.assertEqual(nearest(LINE[:1], (7,), 1), (0,))

    def test_against_sorting_all(self):
        for examples in some_rows(60, 9):
            for row in ((0, 0), (2, 2), (-1, 3)):
                told = sorted(range(len(examples)), key=lambda place: (
                    sum((a - b) ** 2 for a, b in zip(row, examples[place][0])), place))
                for many in range(1, len(examples) + 1):
                    self.assertEqual(nearest(examples, row, many), tuple(told[:many]))

    def test_answer(self):
        self.assertEqual([answer(LINE, (9,), many) for many in (1, 2, 3, 4)], ["a", "a", "b", "a"])
        self.assertEqual(answer(LINE, [1], 1), "a")
        self.assertEqual(answer(LINE, (1,), 3), "b")
        self.assertIs(answer([((0,), False), ((1,), True)], (1,), 1), True)

    def test_as_many_answers_go_by_the_nearest(self):
        self.assertEqual((answer(LINE, (0,), 2), answer(LINE, (2,), 2)), ("a", "b"))
        rows = [((1,), "x"), ((2,), "c"), ((3,), "b"), ((4,), "b"), ((5,), "c")]
        # "x" is the nearest of all, but "c" is that of those told most.
        self.assertEqual(answer(rows, (0,), 5), "c")
        self.assertEqual(answer(rows, (0,), 4), "b")

    def test_left_out(self):
        self.assertEqual(left_out(LINE, 1), 3)
        self.assertEqual(left_out([((0,), "a"), ((0,), "a")], 1), 0)
        self.assertEqual(left_out([((0,), "a"), ((0,), "b")], 1), 2)
        self.assertEqual(left_out(LINE, 3), 4)
        for examples in some_rows(40, 7, seed=4):
            for many in range(1, len(examples)):
                told = sum(answer([one for here, one in enumerate(examples) if here != place], row, many) != take
                           for place, (row, take) in enumerate(examples))
                self.assertEqual(left_out(examples, many), told)

    def test_left_out_of_too_few(self):
        for examples, many in ((LINE[:1], 1), (LINE[:1], 0), (LINE, 4), (LINE, 0)):
            with self.assertRaises(BadSize):
                left_out(examples, many)
        self.assertEqual(left_out(LINE, 2), 3)


class Fewer(unittest.TestCase):
    def test_in_order_of_their_coming_in(self):
        self.assertEqual(fewer_examples(LINE), (0, 1, 3))
        self.assertEqual(fewer_examples(LINE[:1]), (0,))
        self.assertEqual(fewer_examples([((0,), "a"), ((5,), "a")]), (0,))
        # The third one comes in first, and makes the second one wrong only in the next round.
        rows = [((0,), "a"), ((6,), "a"), ((10,), "b")]
        self.assertEqual(fewer_examples(rows), (0, 2, 1))
        self.assertTrue(is_tuples(fewer_examples(rows)))

    def test_told_both_ways_ends(self):
        self.assertEqual(fewer_examples([((0,), "a"), ((0,), "b")]), (0, 1))
        self.assertIs(answers_all([((0,), "a"), ((0,), "b")], (0, 1)), False)

    def test_answers_all(self):
        self.assertIs(answers_all(LINE, (0, 1, 3)), True)
        self.assertIs(answers_all(LINE, [0, 1]), False)
        self.assertIs(answers_all(LINE, range(4)), True)
        # Those alike go by their places among the kept ones.
        rows = [((0,), "a"), ((2,), "b"), ((1,), "a")]
        self.assertIs(answers_all(rows, (0, 1)), True)
        self.assertIs(answers_all(rows, (1, 0)), False)

    def test_none_kept(self):
        with self.assertRaises(BadSize):
            answers_all(LINE, ())

    def fewer(self, examples):
        """Rounds over all, by squares told anew."""
        kept = [0]
        more = True
        while more:
            more = False
            for place, (row, take) in enumerate(examples):
                squares = [sum((a - b) ** 2 for a, b in zip(row, examples[one][0])) for one in kept]
                if examples[kept[squares.index(min(squares))]][1] != take and place not in kept:
                    kept.append(place)
                    more = True
        return tuple(kept)

    def test_some_rows(self):
        for examples in some_rows(80, 12, seed=9):
            found = fewer_examples(examples)
            self.assertEqual(found, self.fewer(examples))
            if len({row for row, _ in examples}) == len(set(examples)):
                self.assertIs(answers_all(examples, found), True)


class Middles(unittest.TestCase):
    def test_middle_of(self):
        self.assertEqual(middle_of([(1, 2), [3, 5]]), ((4, 7), 2))
        self.assertEqual(middle_of(((-1,),)), ((-1,), 1))
        self.assertEqual(middle_of([(), ()]), ((), 2))
        self.assertTrue(is_tuples(middle_of([[1, 2]])))
        for rows in ([], ()):
            with self.assertRaises(BadSize):
                middle_of(rows)

    def test_by_middles(self):
        # The middles are five and three.
        self.assertEqual([by_middles(LINE, [at]) for at in (-9, 0, 3, 4, 5, 12)], ["b", "b", "b", "a", "a", "a"])
        self.assertEqual(by_middles([((7, 7), "z")], (0, 0)), "z")

    def test_middles_alike_go_by_their_answers(self):
        self.assertEqual(by_middles([((2,), "b"), ((0,), "a")], (1,)), "a")
        self.assertEqual(by_middles([((0,), "b"), ((2,), "a")], (1,)), "a")
        self.assertIs(by_middles([((3,), True), ((3,), False)], (3,)), False)

    def test_middles_are_compared_as_parts(self):
        # The middles are 4/3 and 5/3, and 3/2 lies between them: doubled, so that it is whole.
        rows = [((2,), "a"), ((2,), "a"), ((4,), "a"), ((2,), "b"), ((4,), "b"), ((4,), "b")]
        self.assertEqual([by_middles(rows, (at,)) for at in (2, 3, 4)], ["a", "a", "b"])
        # 1/3 is nearer to nought than 1/2, though both are less than one.
        rows = [((0,), "a"), ((1,), "a"), ((0,), "b"), ((0,), "b"), ((1,), "b")]
        self.assertEqual([by_middles(rows, (at,)) for at in (0, 1)], ["b", "a"])

    def test_some_rows(self):
        for examples in some_rows(60, 9, seed=5):
            for row in product((-2, 0, 1), (0, 3)):
                found = []
                for take in sorted({take for _, take in examples}):
                    known = [here for here, one in examples if one == take]
                    middles = [Fraction(sum(here[place] for here in known), len(known)) for place in (0, 1)]
                    found.append((sum((a - b) ** 2 for a, b in zip(middles, row)), take))
                self.assertEqual(by_middles(examples, row), min(found)[1])


if __name__ == "__main__":
    unittest.main()
