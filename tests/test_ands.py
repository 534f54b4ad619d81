import unittest
from itertools import permutations, product

from lessonwright.ands import (
    And, Edges, Learner, all_rules, closest_and, covered, most_mistakes, points_of, with_bit)
from lessonwright.errors import BadExample, BadSize
from lessonwright.points import all_points
from makers import some_examples


def lot_of(rule):
    """The points of a rule, as a set, for comparing rules by what they are true of."""
    return frozenset(point for point in all_points(rule.many) if rule.has(point))


class Rule(unittest.TestCase):
    def test_fields(self):
        rule = And(3, {2: 0, 0: 1})
        self.assertEqual((rule.many, rule.bits), (3, {0: 1, 2: 0}))
        self.assertIsInstance(And(3, [(2, 0), [0, 1]]).bits, dict)
        self.assertEqual(And(3, [(2, 0), [0, 1]]).bits, {0: 1, 2: 0})
        self.assertIsNone(And(3).bits)

    def test_what_is_handed_in_is_kept_apart(self):
        bits = {0: 1}
        rule = And(2, bits)
        bits[1] = 0
        self.assertEqual(rule.bits, {0: 1})

    def test_has(self):
        rule = And(3, {2: 0, 0: 1})
        self.assertIs(rule.has((1, 1, 0)), True)
        self.assertIs(rule.has([1, 0, 0]), True)
        self.assertIs(rule.has((1, 1, 1)), False)
        self.assertIs(rule.has((0, 1, 0)), False)

    def test_bare_table_and_nothing(self):
        for many in range(3):
            for point in all_points(many):
                self.assertIs(And(many, {}).has(point), True)
                self.assertIs(And(many).has(point), False)

    def test_shown(self):
        self.assertEqual(And(3, {2: 0, 0: 1}).shown(), ((0, 1), (2, 0)))
        self.assertEqual(And(3, {}).shown(), ())
        self.assertIsNone(And(3).shown())

    def test_widened(self):
        self.assertEqual(And(2).widened([1, 0]).shown(), ((0, 1), (1, 0)))
        self.assertEqual(And(3, {0: 1, 2: 0}).widened((1, 1, 1)).shown(), ((0, 1),))
        self.assertEqual(And(2, {0: 1}).widened((0, 0)).shown(), ())
        self.assertEqual(And(0).widened(()).shown(), ())
        rule = And(2, {0: 1})
        rule.widened((0, 0))
        self.assertEqual(rule.shown(), ((0, 1),))

    def test_widened_is_the_closest(self):
        rules = all_rules(3)
        for rule, point in product(rules, all_points(3)):
            wide = rule.widened(point)
            self.assertTrue(wide.has(point) and wide.covers(rule))
            for other in rules:
                if other.has(point) and lot_of(rule) <= lot_of(other):
                    self.assertLessEqual(lot_of(wide), lot_of(other))

    def test_covers(self):
        for many in range(3):
            for one, other in product(all_rules(many), repeat=2):
                self.assertIs(one.covers(other), lot_of(other) <= lot_of(one))

    def test_narrowed(self):
        self.assertEqual([rule.shown() for rule in And(3, {1: 0}).narrowed((1, 0, 0))],
                         [((0, 0), (1, 0)), ((1, 0), (2, 1))])
        self.assertEqual([rule.shown() for rule in And(2, {1: 0}).narrowed((0, 1))], [((1, 0),)])
        self.assertEqual([rule.shown() for rule in And(1, {0: 0}).narrowed((0,))], [None])
        self.assertEqual([rule.shown() for rule in And(0, {}).narrowed(())], [None])
        self.assertEqual([rule.shown() for rule in And(2).narrowed((0, 1))], [None])
        self.assertIsInstance(And(2, {}).narrowed((0, 1)), tuple)

    def test_narrowed_are_the_widest(self):
        rules = all_rules(3)
        for rule, point in product(rules, all_points(3)):
            below = [other for other in rules if rule.covers(other) and not other.has(point)]
            widest = {other.shown() for other in below
                      if not any(lot_of(other) < lot_of(further) for further in below)}
            self.assertEqual({other.shown() for other in rule.narrowed(point)}, widest)


class Closest(unittest.TestCase):
    def test_closest(self):
        examples = [([1, 0, 1], True), ((1, 1, 1), True), [(0, 1, 1), False]]
        self.assertEqual(closest_and(examples, 3).shown(), ((0, 1), (2, 1)))
        self.assertEqual(closest_and([((1, 0), True)], 2).shown(), ((0, 1), (1, 0)))

    def test_no_examples_and_none_true(self):
        self.assertIsNone(closest_and([], 2).shown())
        self.assertIsNone(closest_and([((0, 1), False)], 2).shown())
        self.assertIsNone(closest_and((), 0).shown())
        self.assertEqual(closest_and([((), True)], 0).shown(), ())

    def test_refuses_where_no_rule_agrees(self):
        for examples in ([((0, 0), True), ((1, 1), True), ((0, 1), False)],
                         [((0, 1), False), ((0, 0), True), ((1, 1), True)],
                         [((0, 0), True), ((0, 0), False)]):
            with self.assertRaises(BadExample):
                closest_and(examples, 2)

    def test_refuses_what_is_no_point(self):
        for point in ((0,), (0, 1, 1), (0, 2)):
            for take in (False, True):
                with self.assertRaises(BadExample):
                    closest_and([((0, 0), True), (point, take)], 2)

    def test_against_all_rules(self):
        for examples in some_examples(200, 3, 5, seed=11):
            good = [rule for rule in all_rules(3) if all(rule.has(point) == take for point, take in examples)]
            if good:
                found = closest_and(examples, 3)
                self.assertTrue(all(rule.covers(found) for rule in good))
                self.assertIn(found.shown(), [rule.shown() for rule in good])
            else:
                with self.assertRaises(BadExample):
                    closest_and(examples, 3)


class Learned(unittest.TestCase):
    def test_says_no_where_it_is_not_sure(self):
        learner = Learner(2)
        self.assertEqual((learner.rule.shown(), learner.mistakes), (None, 0))
        self.assertIs(learner.see((1, 0), True), False)
        self.assertEqual((learner.rule.shown(), learner.mistakes), (((0, 1), (1, 0)), 1))
        self.assertIs(learner.see([1, 1], False), False)
        self.assertIs(learner.see((1, 0), True), True)
        self.assertIs(learner.see((0, 0), True), False)
        self.assertEqual((learner.rule.shown(), learner.mistakes), (((1, 0),), 2))

    def test_refused_changes_nothing(self):
        learner = Learner(2)
        learner.see((0, 1), True)
        with self.assertRaises(BadExample):
            learner.see((0, 1), False)
        self.assertEqual((learner.rule.shown(), learner.mistakes), (((0, 0), (1, 1)), 1))
        self.assertIs(learner.see((0, 1), True), True)

    def test_most_mistakes(self):
        self.assertEqual([most_mistakes(many) for many in range(4)], [1, 2, 3, 4])

    def test_no_more_mistakes_than_told_on_any_row(self):
        for many in range(3):
            worst = 0
            for rule in all_rules(many):
                for row in permutations(all_points(many)):
                    learner = Learner(many)
                    for point in row + row:
                        self.assertIs(learner.see(point, rule.has(point)) and not rule.has(point), False)
                    worst = max(worst, learner.mistakes)
            self.assertEqual(worst, most_mistakes(many))


class Between(unittest.TestCase):
    def shown(self, edges):
        return edges.low.shown(), [rule.shown() for rule in edges.high]

    def test_begins_with_all_between(self):
        edges = Edges(2)
        self.assertEqual(edges.many, 2)
        self.assertEqual(self.shown(edges), (None, [()]))
        self.assertIsInstance(edges.high, list)
        self.assertIs(edges.is_bare(), False)
        self.assertIs(edges.agrees_low(), True)
        self.assertIsNone(edges.says((0, 1)))

    def test_told(self):
        edges = Edges(3)
        self.assertIsNone(edges.see((1, 0, 1), True))
        self.assertEqual(self.shown(edges), (((0, 1), (1, 0), (2, 1)), [()]))
        edges.see([0, 0, 0], False)
        self.assertEqual(self.shown(edges), (((0, 1), (1, 0), (2, 1)), [((0, 1),), ((2, 1),)]))
        self.assertIs(edges.says((0, 1, 0)), False)
        self.assertIsNone(edges.says((1, 1, 0)))
        edges.see((1, 1, 0), True)
        self.assertEqual(self.shown(edges), (((0, 1),), [((0, 1),)]))
        self.assertEqual([edges.says(point) for point in ((1, 1, 1), (0, 1, 1))], [True, False])

    def test_nothing_is_true_where_all_is_told_not(self):
        for many in range(3):
            edges = Edges(many)
            for point in all_points(many):
                edges.see(point, False)
            self.assertEqual(self.shown(edges), (None, [None]))
            self.assertEqual((edges.is_bare(), edges.agrees_low()), (False, True))
            self.assertEqual([edges.says(point) for point in all_points(many)], [False] * 2 ** many)

    def test_no_rule_agrees(self):
        for rows in ([((0, 1), True), ((0, 1), False)], [((0, 1), False), ((0, 1), True)],
                     [((0, 0), True), ((1, 1), True), ((0, 1), False)],
                     [((0, 1), False), ((0, 0), True), ((1, 1), True)]):
            edges = Edges(2)
            for point, take in rows:
                edges.see(point, take)
            self.assertEqual((edges.is_bare(), edges.agrees_low()), (True, False))
            self.assertEqual([edges.says(point) for point in all_points(2)], [None] * 4)

    def test_all_rules_that_agree_are_between(self):
        for examples in some_examples(300, 3, 6, seed=3):
            edges = Edges(3)
            for count, (point, take) in enumerate(examples):
                edges.see(point, take)
                told = examples[:count + 1]
                good = [rule for rule in all_rules(3) if all(rule.has(seen) == said for seen, said in told)]
                between = [rule for rule in all_rules(3)
                           if rule.covers(edges.low) and any(wide.covers(rule) for wide in edges.high)]
                self.assertEqual([rule.shown() for rule in between], [rule.shown() for rule in good])
                widest = {rule.shown() for rule in good if not any(lot_of(rule) < lot_of(wide) for wide in good)}
                self.assertEqual({rule.shown() for rule in edges.high}, widest)
                self.assertEqual(len(edges.high), len(widest))
                self.assertIs(edges.is_bare(), good == [])
                for asked in all_points(3):
                    said = {rule.has(asked) for rule in good}
                    self.assertEqual(edges.says(asked), said.pop() if len(said) == 1 else None)


class All(unittest.TestCase):
    def test_covered(self):
        rules = [And(2, {0: 1}), And(2, {}), And(2, {}), And(2)]
        self.assertEqual([covered(rule, rules, place) for place, rule in enumerate(rules)],
                         [True, False, True, True])
        self.assertIs(covered(rules[0], rules[:1], 0), False)
        self.assertIs(covered(And(2, {0: 1}), [And(2, {0: 1}), And(2, {1: 1})], 0), False)

    def test_in_their_order(self):
        self.assertEqual([rule.shown() for rule in all_rules(0)], [None, ()])
        self.assertEqual([rule.shown() for rule in all_rules(1)], [None, (), ((0, 0),), ((0, 1),)])
        self.assertEqual([rule.shown() for rule in all_rules(2)], [
            None, (), ((1, 0),), ((1, 1),), ((0, 0),), ((0, 0), (1, 0)), ((0, 0), (1, 1)), ((0, 1),),
            ((0, 1), (1, 0)), ((0, 1), (1, 1))])
        self.assertIsInstance(all_rules(1), tuple)

    def test_each_once(self):
        for many in range(5):
            rules = all_rules(many)
            self.assertEqual(len({rule.shown() for rule in rules}), 3 ** many + 1)
            self.assertTrue(all(rule.many == many for rule in rules))

    def test_with_bit(self):
        bits = {1: 0}
        self.assertEqual(with_bit(bits, 0, 1), {0: 1, 1: 0})
        self.assertEqual(with_bit(bits, 1, 1), {1: 1})
        self.assertEqual(bits, {1: 0})
        self.assertIsInstance(with_bit({}, 0, 0), dict)

    def test_points_of(self):
        self.assertEqual(points_of(And(3, {1: 1})), ((0, 1, 0), (0, 1, 1), (1, 1, 0), (1, 1, 1)))
        self.assertEqual(points_of(And(2)), ())
        self.assertEqual(points_of(And(0, {})), ((),))

    def test_points_of_refuses_past_ten(self):
        for rule in (And(11, {}), And(11)):
            with self.assertRaises(BadSize):
                points_of(rule)


if __name__ == "__main__":
    unittest.main()
