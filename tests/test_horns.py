import unittest
from itertools import product

from lessonwright.errors import BadSize
from lessonwright.horns import (
    Horn, HornTeacher, all_asks, breaks, is_closed, is_less, learned_horn, rules_of, take_in)
from lessonwright.points import all_points, first_unlike, is_under, meet
from makers import Steps


def right_points(horn):
    return [point for point in all_points(horn.many) if horn.has(point)]


def all_lots(many):
    """All lots of points of so many places."""
    for kept in product((False, True), repeat=2 ** many):
        yield [point for point, keep in zip(all_points(many), kept) if keep]


def closed_lots(many):
    return [lot for lot in all_lots(many) if all(meet(one, other) in lot for one, other in product(lot, repeat=2))]


def some_horns(count, many, seed=1):
    steps = Steps(seed)
    for _ in range(count):
        rules = []
        for _ in range(steps.below(6)):
            asked = steps.below(many + 1)
            rules.append(([place for place in range(many) if steps.below(3) == 0], None if asked == many else asked))
        yield Horn(many, rules)


class Rules(unittest.TestCase):
    def test_fields(self):
        horn = Horn(3, [[[0, 1], 2], ((2,), None)])
        self.assertEqual((horn.many, horn.rules), (3, [((0, 1), 2), ((2,), None)]))
        self.assertIsInstance(horn.rules, list)

    def test_has(self):
        horn = Horn(3, [((0, 1), 2), ((2, 0), None)])
        self.assertEqual([horn.has(point) for point in all_points(3)],
                         [True, True, True, True, True, False, False, False])
        self.assertIs(horn.has([1, 0, 0]), True)

    def test_no_rules_and_bare_rules(self):
        for point in all_points(2):
            self.assertIs(Horn(2, []).has(point), True)
            self.assertIs(Horn(2, [((), None)]).has(point), False)
            self.assertIs(Horn(2, [((), 1)]).has(point), point[1] == 1)
        self.assertIs(Horn(0, []).has(()), True)
        self.assertIs(Horn(0, [((), None)]).has(()), False)

    def test_shown(self):
        rules = [((2, 1), 0), ((0,), None), ([1, 2], 0), ((0, 2), 1), ((0,), 2), ((), None), ((1, 2), None), ((0,), 1)]
        self.assertEqual(Horn(3, rules).shown(), (
            ((), None), ((0,), 1), ((0,), 2), ((0,), None), ((0, 2), 1), ((1, 2), 0), ((1, 2), 0), ((1, 2), None)))
        self.assertEqual(Horn(3, []).shown(), ())

    def test_breaks(self):
        self.assertIs(breaks((1, 1, 0), ((0, 1), 2)), True)
        self.assertIs(breaks((1, 1, 1), ((0, 1), 2)), False)
        self.assertIs(breaks((1, 0, 0), ((0, 1), 2)), False)
        self.assertIs(breaks([1, 1, 0], ([0, 1], None)), True)
        self.assertIs(breaks((1, 0, 0), ((0, 1), None)), False)
        self.assertIs(breaks((0, 0), ((), None)), True)
        self.assertIs(breaks((0, 0), ((), 1)), True)

    def test_closed(self):
        horn = Horn(4, [((0,), 1), ((1, 2), 3), ((3, 0), None)])
        self.assertEqual(horn.closed([0, 1, 1, 0]), (0, 1, 1, 1))
        self.assertEqual(horn.closed((1, 0, 0, 0)), (1, 1, 0, 0))
        self.assertIsNone(horn.closed((1, 0, 1, 0)))
        self.assertEqual(Horn(2, []).closed((0, 1)), (0, 1))
        self.assertIsNone(Horn(2, [((), None)]).closed((0, 0)))
        self.assertEqual(Horn(2, [((), 1)]).closed((0, 0)), (0, 1))
        self.assertIsInstance(Horn(2, []).closed([0, 1]), tuple)

    def test_closed_is_the_least_above(self):
        for horn in some_horns(60, 4):
            right = right_points(horn)
            for point in all_points(4):
                above = [other for other in right if is_under(point, other)]
                found = horn.closed(point)
                if above:
                    self.assertIn(found, above)
                    self.assertTrue(all(is_under(found, other) for other in above))
                else:
                    self.assertIsNone(found)

    def test_all_asks(self):
        self.assertEqual(all_asks((0, 1, 0), 3), [((1,), 0), ((1,), 2), ((1,), None)])
        self.assertEqual(all_asks([1, 1], 2), [((0, 1), None)])
        self.assertEqual(all_asks((), 0), [((), None)])
        self.assertIsInstance(all_asks((0,), 1), list)


class Taught(unittest.TestCase):
    def test_points_count_once(self):
        horn = Horn(2, [((0,), 1)])
        teacher = HornTeacher(horn)
        self.assertEqual((teacher.many, teacher.asked, teacher.guesses), (2, {}, 0))
        self.assertIs(teacher.hidden, horn)
        self.assertIs(teacher.has((1, 0)), False)
        self.assertIs(teacher.has([1, 0]), False)
        self.assertIs(teacher.has((0, 1)), True)
        self.assertEqual(teacher.asked, {(1, 0): False, (0, 1): True})

    def test_first_wrong_point(self):
        teacher = HornTeacher(Horn(2, [((0,), 1)]))
        self.assertEqual(teacher.wrong_at(Horn(2, [])), (1, 0))
        self.assertEqual(teacher.wrong_at(Horn(2, [((), None)])), (0, 0))
        self.assertIsNone(teacher.wrong_at(Horn(2, [([0], 1), ([0], 1)])))
        self.assertEqual((teacher.guesses, teacher.asked), (3, {}))

    def test_refused_changes_nothing(self):
        teacher = HornTeacher(Horn(11, []))
        with self.assertRaises(BadSize):
            teacher.wrong_at(Horn(11, []))
        self.assertEqual((teacher.guesses, teacher.asked), (0, {}))

    def test_take_in(self):
        teacher = HornTeacher(Horn(3, [((0, 1), 2)]))
        broken = []
        self.assertIsNone(take_in(teacher, broken, (1, 1, 0)))
        self.assertEqual(broken, [(1, 1, 0)])
        teacher = HornTeacher(Horn(4, [((0,), None), ((1,), 3)]))
        broken = [(1, 0, 1, 0), (0, 1, 1, 0)]
        # The meet with the first kept point is right, so the second one is made less.
        take_in(teacher, broken, (0, 1, 0, 0))
        self.assertEqual(broken, [(1, 0, 1, 0), (0, 1, 0, 0)])
        # A meet that is the kept point itself makes nothing less.
        take_in(teacher, broken, (1, 1, 1, 0))
        self.assertEqual(broken, [(1, 0, 1, 0), (0, 1, 0, 0), (1, 1, 1, 0)])
        # The first one that can be is made less, and it alone.
        take_in(teacher, broken, (1, 0, 0, 0))
        self.assertEqual(broken, [(1, 0, 0, 0), (0, 1, 0, 0), (1, 1, 1, 0)])

    def learn(self, horn):
        teacher = HornTeacher(horn)
        found = learned_horn(teacher)
        self.assertIsInstance(found, Horn)
        self.assertIsNone(first_unlike(found.has, horn.has, horn.many))
        self.assertLessEqual(teacher.guesses, 400)
        return teacher.guesses

    def test_learns_all_closed_lots(self):
        for many in range(4):
            lots = closed_lots(many)
            for lot in lots:
                self.learn(rules_of(lot, many))
        self.assertEqual(len(lots), 122)

    def test_learns_larger_rules(self):
        for horn in some_horns(40, 6, seed=9):
            rules = len(horn.rules)
            # The known bound: kept points are lessened, and asks are left out, so often at most.
            self.assertLessEqual(self.learn(horn), rules * 7 * 7 + rules * 7 + 1)

    def test_first_guesses(self):
        teacher = HornTeacher(Horn(2, [((0,), 1)]))
        found = learned_horn(teacher)
        self.assertEqual(found.shown(), (((0,), 1),))
        # No rules; then ((0,), 1) and ((0,), None), wrong at (1, 1); then right.
        self.assertEqual(teacher.guesses, 3)

    def test_refuses_past_so_many_guesses(self):
        self.assertEqual(learned_horn(HornTeacher(Horn(2, [((0,), 1)])), 3).shown(), (((0,), 1),))
        for most in (0, 1, 2):
            teacher = HornTeacher(Horn(2, [((0,), 1)]))
            with self.assertRaises(BadSize):
                learned_horn(teacher, most)
            self.assertEqual(teacher.guesses, most)
        self.assertEqual(learned_horn(HornTeacher(Horn(2, [])), most=1).shown(), ())


class Closed(unittest.TestCase):
    def test_is_closed(self):
        self.assertIs(is_closed([(1, 0), (0, 1)]), False)
        self.assertIs(is_closed([(1, 0), [0, 1], (0, 0)]), True)
        self.assertIs(is_closed([]), True)
        self.assertIs(is_closed([[1, 1]]), True)

    def test_rules_are_kept_by_just_the_closed_points(self):
        for many in range(4):
            for lot in closed_lots(many):
                horn = rules_of(lot, many)
                self.assertIsInstance(horn, Horn)
                self.assertEqual(right_points(horn), lot)

    def test_rules_have_the_fewest_places(self):
        for lot in closed_lots(3):
            kept = [rule for point in all_points(3) for rule in all_asks(point, 3)
                    if not any(breaks(good, rule) for good in lot)]
            least = [rule for rule in kept if not any(
                other[1] in (rule[1], None) and set(other[0]) < set(rule[0]) for other in kept)]
            self.assertEqual(rules_of(lot, 3).shown(), Horn(3, least).shown())

    def test_rules(self):
        self.assertEqual(rules_of([(0, 0), (0, 1), [1, 1]], 2).shown(), (((0,), 1),))
        self.assertEqual(rules_of(((0, 0, 0), (1, 1, 0)), 3).shown(),
                         (((0,), 1), ((1,), 0), ((2,), 0), ((2,), 1), ((2,), None)))
        self.assertEqual(rules_of(all_points(2), 2).shown(), ())
        self.assertEqual(rules_of([()], 0).shown(), ())
        self.assertEqual(rules_of([], 0).shown(), (((), None),))

    def test_refuses_points_that_are_not_closed(self):
        for lot in all_lots(2):
            if lot not in closed_lots(2):
                with self.assertRaises(BadSize):
                    rules_of(lot, 2)

    def test_refuses_past_ten(self):
        with self.assertRaises(BadSize):
            rules_of([], 11)

    def test_is_less(self):
        self.assertIs(is_less(((0,), 2), ((0, 1), 2)), True)
        self.assertIs(is_less(((0,), None), ((0, 1), 2)), True)
        self.assertIs(is_less(((0,), None), ((0, 1), None)), True)
        self.assertIs(is_less(((0,), 2), ((0, 1), None)), False)
        self.assertIs(is_less(((0,), 1), ((0, 3), 2)), False)
        self.assertIs(is_less(((0,), 2), ((1, 3), 2)), False)
        self.assertIs(is_less(((0, 1), 2), ((0, 1), 2)), False)
        self.assertIs(is_less(((0, 1), 2), ((0,), 2)), False)


if __name__ == "__main__":
    unittest.main()
