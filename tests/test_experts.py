import unittest
from fractions import Fraction
from itertools import product

from lessonwright.errors import BadSize
from lessonwright.experts import Mix, Sleepers, Vote, added, common, in_bounds, power, small, vote_bound
from makers import Steps

T, F = True, False


class Votes(unittest.TestCase):
    def test_fields(self):
        vote = Vote(3)
        self.assertEqual((vote.wrong, vote.mistakes), ([0, 0, 0], 0))
        self.assertIsInstance(vote.wrong, list)

    def test_refuses_no_experts(self):
        for made in (Vote, Mix):
            for many in (0, -1):
                with self.assertRaises(BadSize):
                    made(many)

    def test_heavier_half(self):
        vote = Vote(3)
        self.assertIs(vote.guess((T, F, F)), False)
        self.assertIs(vote.guess([T, T, F]), True)
        self.assertIs(Vote(2).guess((T, F)), True)
        self.assertIs(Vote(2).guess((F, T)), True)

    def test_sees(self):
        vote = Vote(3)
        self.assertIs(vote.see((T, F, F), T), False)
        self.assertEqual((vote.wrong, vote.mistakes), ([0, 1, 1], 1))
        self.assertEqual(vote.whole_weights(), (2, 1, 1))
        # Now the first one is as heavy as the other two: alike halves say yes.
        self.assertIs(vote.see([F, T, T], T), True)
        self.assertEqual((vote.wrong, vote.mistakes), ([1, 1, 1], 1))
        self.assertEqual(vote.whole_weights(), (1, 1, 1))

    def test_whole_weights(self):
        vote = Vote(3)
        for answers in ((T, F, F), (T, F, T), (T, F, T)):
            vote.see(answers, T)
        self.assertEqual((vote.wrong, vote.whole_weights()), ([0, 3, 1], (8, 1, 4)))
        self.assertEqual(Vote(2).whole_weights(), (1, 1))

    def test_a_single_expert(self):
        vote = Vote(1)
        for answer, right in product((F, T), repeat=2):
            self.assertIs(vote.see((answer,), right), answer)
        self.assertEqual((vote.wrong, vote.mistakes, vote.whole_weights()), ([2], 2, (1,)))

    def test_refused_changes_nothing(self):
        vote = Vote(2)
        vote.see((T, F), F)
        for answers in ((), (T,), (T, T, T)):
            with self.assertRaises(BadSize):
                vote.see(answers, T)
        self.assertEqual((vote.wrong, vote.mistakes), ([1, 0], 1))

    def test_bound_on_all_rows(self):
        ways = list(product((F, T), repeat=3))
        for row in product(ways, repeat=4):
            vote = Vote(2)
            for first, second, right in row:
                vote.see((first, second), right)
            self.assertTrue(vote_bound(vote.mistakes, min(vote.wrong), 2))

    def test_bound_against_a_teacher_that_gainsays(self):
        steps = Steps(4)
        for many in (1, 3, 8, 20):
            vote = Vote(many)
            for _ in range(60):
                answers = [steps.below(2) == 1 for _ in range(many)]
                vote.see(answers, not vote.guess(answers))
                self.assertTrue(vote_bound(vote.mistakes, min(vote.wrong), many))
            self.assertEqual(vote.mistakes, 60)

    def test_vote_bound(self):
        self.assertIs(vote_bound(0, 0, 1), True)
        self.assertIs(vote_bound(1, 0, 1), False)
        self.assertIs(vote_bound(1, 0, 2), True)
        self.assertIs(vote_bound(2, 0, 2), True)
        self.assertIs(vote_bound(3, 0, 2), False)
        self.assertIs(vote_bound(4, 1, 2), True)
        self.assertIs(vote_bound(5, 1, 2), False)

    def test_power(self):
        self.assertEqual([power(3, count) for count in range(4)], [1, 3, 9, 27])
        self.assertEqual((power(0, 0), power(2, 70)), (1, 2 ** 70))


class Parts(unittest.TestCase):
    def test_common(self):
        self.assertEqual([common(12, 18), common(18, 12), common(7, 5), common(0, 6), common(6, 0), common(1, 1)],
                         [6, 6, 1, 6, 6, 1])

    def test_small(self):
        self.assertEqual((small(6, 8), small(0, 5), small(5, 5), small(7, 3)), ((3, 4), (0, 1), (1, 1), (7, 3)))

    def test_added(self):
        self.assertEqual((added((1, 2), (1, 3)), added((1, 6), (1, 3)), added((0, 1), (0, 1))),
                         ((5, 6), (1, 2), (0, 1)))


class Mixture(unittest.TestCase):
    def test_fields(self):
        mix = Mix(2)
        self.assertEqual((mix.weights, mix.losses, mix.loss, mix.rest), ([1, 1], [0, 0], (0, 1), (1, 1)))
        self.assertEqual([type(part) for part in (mix.weights, mix.losses, mix.loss, mix.rest)],
                         [list, list, tuple, tuple])

    def test_sees(self):
        mix = Mix(3)
        self.assertEqual(mix.see((1, 0, 0)), (1, 3))
        self.assertEqual((mix.weights, mix.losses, mix.loss, mix.rest), ([1, 2, 2], [1, 0, 0], (1, 3), (5, 6)))
        self.assertEqual(mix.shares(), ((1, 5), (2, 5), (2, 5)))
        self.assertEqual(mix.see([1, 1, 0]), (3, 5))
        self.assertEqual((mix.weights, mix.losses, mix.loss, mix.rest), ([1, 2, 4], [2, 1, 0], (14, 15), (7, 12)))
        self.assertEqual(mix.see((0, 0, 0)), (0, 1))
        self.assertEqual((mix.weights, mix.losses, mix.loss, mix.rest), ([2, 4, 8], [2, 1, 0], (14, 15), (7, 12)))
        self.assertEqual(mix.shares(), ((1, 7), (2, 7), (4, 7)))
        self.assertEqual(mix.see((1, 1, 1)), (1, 1))
        self.assertEqual((mix.weights, mix.losses, mix.loss, mix.rest), ([2, 4, 8], [3, 2, 1], (29, 15), (7, 24)))

    def test_a_single_expert(self):
        mix = Mix(1)
        self.assertEqual([mix.see((loss,)) for loss in (1, 0, 1)], [(1, 1), (0, 1), (1, 1)])
        self.assertEqual((mix.weights, mix.losses, mix.loss, mix.rest), ([2], [2], (2, 1), (1, 4)))
        self.assertEqual(mix.shares(), ((1, 1),))
        self.assertIs(in_bounds(mix), True)

    def test_refused_changes_nothing(self):
        mix = Mix(2)
        mix.see((1, 0))
        for losses in ((), (1,), (0, 1, 0), (0, 2), (-1, 0)):
            with self.assertRaises(BadSize):
                mix.see(losses)
        self.assertEqual((mix.weights, mix.losses, mix.loss, mix.rest), ([1, 2], [1, 0], (1, 2), (3, 4)))

    def test_parts_and_bounds_on_many_rows(self):
        steps = Steps(21)
        for many in (1, 2, 5):
            mix = Mix(many)
            loss, rest = Fraction(0), Fraction(1)
            for _ in range(40):
                weights = [Fraction(1, 2 ** lost) for lost in mix.losses]
                losses = [steps.below(2) for _ in range(many)]
                share = sum(weight for weight, lost in zip(weights, losses) if lost) / sum(weights)
                self.assertEqual(mix.see(losses), (share.numerator, share.denominator))
                loss, rest = loss + share, rest * (1 - share / 2)
                self.assertEqual(mix.loss, (loss.numerator, loss.denominator))
                self.assertEqual(mix.rest, (rest.numerator, rest.denominator))
                self.assertIs(in_bounds(mix), True)
                shares = [Fraction(top, low) for top, low in mix.shares()]
                self.assertEqual(sum(shares), 1)

    def test_in_bounds(self):
        mix = Mix(2)
        self.assertIs(in_bounds(mix), True)
        mix.rest = (1, 3)
        self.assertIs(in_bounds(mix), False)
        mix.rest = (1, 2)
        self.assertIs(in_bounds(mix), True)
        mix.rest, mix.losses = (1, 4), [1, 2]
        self.assertIs(in_bounds(mix), True)
        mix.rest = (1, 5)
        self.assertIs(in_bounds(mix), False)
        mix.rest, mix.losses = (1, 3), [0, 2]
        self.assertIs(in_bounds(mix), False)


class Sleeping(unittest.TestCase):
    def test_fields(self):
        sleepers = Sleepers(2)
        self.assertEqual((sleepers.wrong, sleepers.mistakes), ([0, 0], 0))
        self.assertIsInstance(sleepers.wrong, list)

    def test_the_first_of_the_fewest_mistakes_is_followed(self):
        sleepers = Sleepers(3)
        self.assertEqual(sleepers.leader((None, F, T)), 1)
        self.assertIs(sleepers.see((T, F, F), F), True)
        self.assertEqual((sleepers.wrong, sleepers.mistakes), ([1, 0, 0], 1))
        self.assertEqual(sleepers.leader([T, T, T]), 1)
        self.assertEqual(sleepers.leader((T, None, T)), 2)
        self.assertEqual(sleepers.leader((T, None, None)), 0)
        self.assertIs(sleepers.see((T, None, F), T), False)
        self.assertEqual((sleepers.wrong, sleepers.mistakes), ([1, 0, 1], 2))
        self.assertIs(sleepers.see((T, None, F), T), True)
        self.assertEqual((sleepers.wrong, sleepers.mistakes), ([1, 0, 2], 2))

    def test_nobody_answers(self):
        sleepers = Sleepers(2)
        self.assertIsNone(sleepers.leader((None, None)))
        self.assertIsNone(sleepers.see([None, None], T))
        self.assertEqual((sleepers.wrong, sleepers.mistakes), ([0, 0], 0))
        self.assertIsNone(Sleepers(0).see((), F))

    def test_no_more_mistakes_than_told_where_a_rule_is_always_right(self):
        steps = Steps(2)
        for many in (1, 3, 6):
            sleepers = Sleepers(many)
            for _ in range(50):
                right = steps.below(2) == 1
                answers = [(F, T, None)[steps.below(3)] for _ in range(many - 1)] + [right]
                sleepers.see(answers, right)
            # Each mistake is a first one of somebody who was never wrong.
            self.assertLessEqual(sleepers.mistakes, many - 1)
            self.assertEqual(sleepers.wrong[-1], 0)


if __name__ == "__main__":
    unittest.main()
