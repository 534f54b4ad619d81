import unittest
from itertools import combinations, permutations, product

from lessonwright.errors import BadExample
from lessonwright.winnows import Winnow, alive, is_any, logarithm, most_winnow, weight_of
from makers import Steps


class Weights(unittest.TestCase):
    def test_fields(self):
        learner = Winnow(3)
        self.assertEqual((learner.many, learner.weights, learner.lacks, learner.spares), (3, [1, 1, 1], 0, 0))
        self.assertIsInstance(learner.weights, list)
        self.assertEqual(Winnow(0).weights, [])

    def test_guess_from_half_on(self):
        learner = Winnow(4)
        self.assertIs(learner.guess((1, 0, 0, 0)), False)
        self.assertIs(learner.guess([1, 1, 0, 0]), True)
        self.assertIs(learner.guess((1, 1, 1, 0)), True)
        self.assertIs(Winnow(3).guess((0, 1, 0)), False)
        self.assertIs(Winnow(3).guess((0, 1, 1)), True)

    def test_nought_is_no(self):
        self.assertIs(Winnow(2).guess((0, 0)), False)
        self.assertIs(Winnow(0).guess(()), False)
        learner = Winnow(1)
        learner.see((1,), False)
        self.assertEqual(learner.weights, [0])
        self.assertIs(learner.guess((1,)), False)

    def test_wrongly_no_doubles(self):
        learner = Winnow(8)
        self.assertIs(learner.see((1, 0, 1, 0, 0, 0, 0, 0), True), False)
        self.assertEqual((learner.weights, learner.lacks, learner.spares), ([2, 1, 2, 1, 1, 1, 1, 1], 1, 0))
        self.assertIs(learner.see([1, 0, 1, 0, 0, 0, 0, 0], True), True)
        self.assertEqual((learner.weights, learner.lacks, learner.spares), ([2, 1, 2, 1, 1, 1, 1, 1], 1, 0))

    def test_wrongly_yes_drops(self):
        learner = Winnow(3)
        self.assertIs(learner.see((1, 1, 0), False), True)
        self.assertEqual((learner.weights, learner.lacks, learner.spares), ([0, 0, 1], 0, 1))
        self.assertIs(learner.see((0, 0, 1), False), False)
        self.assertEqual((learner.weights, learner.lacks, learner.spares), ([0, 0, 1], 0, 1))
        self.assertIs(learner.see((1, 0, 1), True), False)
        self.assertEqual((learner.weights, learner.lacks, learner.spares), ([0, 0, 2], 1, 1))

    def test_refuses_a_yes_where_all_weights_are_nought(self):
        learner = Winnow(3)
        learner.see((1, 1, 0), False)
        for point in ((1, 1, 0), (0, 1, 0), (0, 0, 0)):
            with self.assertRaises(BadExample):
                learner.see(point, True)
        self.assertEqual((learner.weights, learner.lacks, learner.spares), ([0, 0, 1], 0, 1))
        self.assertIs(learner.see((1, 1, 0), False), False)
        with self.assertRaises(BadExample):
            Winnow(0).see((), True)

    def test_alive_and_weight(self):
        learner = Winnow(4)
        self.assertEqual((alive(learner), weight_of(learner)), ((0, 1, 2, 3), 4))
        learner.see((1, 0, 1, 0), False)
        learner.see((0, 1, 0, 0), True)
        self.assertEqual((alive(learner), weight_of(learner)), ((1, 3), 3))
        self.assertEqual((alive(Winnow(0)), weight_of(Winnow(0))), ((), 0))

    def test_is_any(self):
        self.assertIs(is_any((0, 1, 0), (0, 1)), True)
        self.assertIs(is_any([0, 1, 0], [0, 2]), False)
        self.assertIs(is_any((1, 1), ()), False)


class Bounds(unittest.TestCase):
    def test_logarithm(self):
        self.assertEqual([logarithm(many) for many in (1, 2, 3, 4, 5, 8, 9, 1024, 1025)],
                         [0, 1, 2, 2, 3, 3, 4, 10, 11])

    def test_most_winnow(self):
        self.assertEqual(most_winnow(1, 1), 4)
        self.assertEqual(most_winnow(100, 3), 2 * 3 * 8 + 2)
        self.assertEqual(most_winnow(16, 0), 2)

    def run_row(self, many, few, row):
        learner = Winnow(many)
        for point in row:
            right = any(point[place] for place in few)
            guess = learner.see(point, right)
            mistakes = learner.lacks + learner.spares
            self.assertLessEqual(mistakes, most_winnow(many, len(few)))
            self.assertTrue(set(few) <= set(alive(learner)))
        return mistakes

    def test_no_more_mistakes_than_told_on_all_rows_of_two_places(self):
        points = list(product((0, 1), repeat=2))
        for few in ((0,), (1,), (0, 1)):
            for row in permutations(points * 2, 5):
                self.run_row(2, few, row)

    def test_no_more_mistakes_than_told_on_many_rows(self):
        steps = Steps(5)
        for many, size in product((5, 16, 40), (1, 2, 3)):
            for _ in range(8):
                few = tuple(sorted({steps.below(many) for _ in range(size)}))
                sparse = 1 + steps.below(many)
                row = [tuple(int(steps.below(many) < sparse) for _ in range(many)) for _ in range(120)]
                self.run_row(many, few, row)

    def test_no_more_mistakes_than_told_against_a_teacher_that_gainsays(self):
        # The teacher tells what wasn't said, as long as some of the few places may yet be what counts.
        for many, size in ((6, 1), (6, 2), (9, 2)):
            left = list(combinations(range(many), size))
            learner = Winnow(many)
            steps = Steps(many * 7 + size)
            for _ in range(400):
                point = tuple(steps.below(2) for _ in range(many))
                right = not learner.guess(point)
                rest = [few for few in left if any(point[place] for place in few) == right]
                if rest:
                    left = rest
                    learner.see(point, right)
            self.assertLessEqual(learner.lacks + learner.spares, most_winnow(many, size))
            self.assertGreater(learner.lacks + learner.spares, 1)


if __name__ == "__main__":
    unittest.main()
