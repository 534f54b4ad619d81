import unittest
from fractions import Fraction
from math import gcd

from lessonwright.boosts import Boost, Stump, all_stumps, best_stump, boost_bound, small_by, wrong_weight
from lessonwright.errors import BadExample, BadSize
from makers import all_tables, is_tuples, some_examples

# True of at least two ones: each rule of one place is wrong at one example of four.
MOST = [((a, b, c), a + b + c > 1) for a in (0, 1) for b in (0, 1) for c in (0, 1)]
EITHER = [((0, 0), False), ((0, 1), True), ((1, 0), True), ((1, 1), False)]


def both_ways(examples):
    return len(set(point for point, _ in examples)) != len(set(examples))


class Stumps(unittest.TestCase):
    def test_has(self):
        rule = Stump(1, 0)
        self.assertEqual((rule.place, rule.bit), (1, 0))
        self.assertIs(rule.has((1, 0)), True)
        self.assertIs(rule.has([0, 1]), False)
        self.assertIs(Stump(0, 1).has((1, 0)), True)
        self.assertEqual(rule.shown(), (1, 0))
        self.assertTrue(is_tuples(rule.shown()))

    def test_all_stumps(self):
        self.assertEqual([rule.shown() for rule in all_stumps(2)], [(0, 0), (0, 1), (1, 0), (1, 1)])
        self.assertIsInstance(all_stumps(2), list)
        self.assertEqual(all_stumps(0), [])

    def test_wrong_weight(self):
        table = dict(EITHER)
        weights = {(0, 0): 1, (0, 1): 2, (1, 0): 4, (1, 1): 8}
        self.assertEqual([wrong_weight(rule, table, weights) for rule in all_stumps(2)], [5, 10, 3, 12])
        self.assertEqual(wrong_weight(Stump(0, 1), {}, {}), 0)

    def test_best_stump(self):
        table = dict(EITHER)
        weights = {(0, 0): 1, (0, 1): 2, (1, 0): 4, (1, 1): 8}
        self.assertEqual(best_stump(table, weights, 2).shown(), (1, 0))
        # The first of alike ones.
        self.assertEqual(best_stump(table, {point: 1 for point in table}, 2).shown(), (0, 0))
        self.assertEqual(best_stump(dict(MOST), {point: 1 for point, _ in MOST}, 3).shown(), (0, 1))


class Boosts(unittest.TestCase):
    def test_fields(self):
        boost = Boost([([0, 1], True), ((1, 1), False), ((0, 1), True)], 2)
        self.assertEqual((boost.many, boost.table), (2, {(0, 1): True, (1, 1): False}))
        self.assertEqual((boost.weights, boost.rules, boost.wrongs), ({(0, 1): 1, (1, 1): 1}, [], []))
        self.assertEqual([type(part) for part in (boost.weights, boost.rules, boost.wrongs)], [dict, list, list])

    def test_refused(self):
        for examples in ([], ()):
            for many in (0, 2):
                with self.assertRaises(BadSize):
                    Boost(examples, many)
        for examples in ([((0, 1), True), ((0, 1), False)], [((0,), True)], [((0, 2), True)], [((0, 1, 1), True)]):
            with self.assertRaises(BadExample):
                Boost(examples, 2)

    def test_steps(self):
        boost = Boost(MOST, 3)
        self.assertEqual(boost.step(), (1, 4))
        # Two are wrong, (0, 1, 1) and (1, 0, 0): they weigh three times as much as the others.
        self.assertEqual(boost.weights, {
            point: 3 if point in ((0, 1, 1), (1, 0, 0)) else 1 for point, _ in MOST})
        self.assertEqual(boost.step(), (1, 6))
        self.assertEqual([rule.shown() for rule in boost.rules], [(0, 1), (1, 1)])
        self.assertEqual(boost.wrongs, [(1, 4), (1, 6)])
        self.assertEqual(boost.weights, {
            (0, 0, 0): 1, (0, 0, 1): 1, (0, 1, 0): 5, (0, 1, 1): 3, (1, 0, 0): 3, (1, 0, 1): 5, (1, 1, 0): 1,
            (1, 1, 1): 1})
        self.assertEqual(boost.step(), (1, 10))
        self.assertEqual([rule.shown() for rule in boost.rules], [(0, 1), (1, 1), (2, 1)])
        self.assertEqual(boost.count_mistakes(), 0)

    def test_together(self):
        boost = Boost(MOST, 3)
        self.assertEqual([boost.has(point) for point, _ in MOST], [False] * 8)
        self.assertEqual(boost.count_mistakes(), 4)
        boost.step()
        self.assertEqual([boost.has(point) for point, _ in MOST], [point[0] == 1 for point, _ in MOST])
        boost.step()
        # The second rule is right more often by weight, so it outweighs the first.
        self.assertEqual([boost.has(point) for point, _ in MOST], [point[1] == 1 for point, _ in MOST])
        self.assertEqual(boost.count_mistakes(), 2)
        boost.step()
        self.assertEqual([boost.has(list(point)) for point, _ in MOST], [take for _, take in MOST])

    def test_as_heavy_sides_say_no(self):
        boost = Boost([((0, 0), True)], 2)
        boost.rules = [Stump(0, 1), Stump(1, 1)]
        boost.wrongs = [(1, 4), (1, 4)]
        self.assertEqual([boost.has(point) for point in ((0, 0), (0, 1), (1, 0), (1, 1))], [False, False, False, True])
        boost.wrongs = [(1, 4), (1, 3)]
        self.assertEqual([boost.has(point) for point in ((0, 0), (0, 1), (1, 0), (1, 1))], [False, False, True, True])

    def test_never_wrong_stands_alone(self):
        boost = Boost([((0, 1), False), ((1, 0), True), ((1, 1), False)], 2)
        self.assertIsNone(boost.step())
        self.assertEqual([rule.shown() for rule in boost.rules], [(1, 0)])
        self.assertEqual(boost.wrongs, [(0, 1)])
        self.assertEqual(boost.weights, {(0, 1): 1, (1, 0): 1, (1, 1): 1})
        self.assertEqual((boost.has((0, 0)), boost.has((0, 1)), boost.count_mistakes()), (True, False, 0))
        self.assertIs(boost_bound(boost), True)
        # It still stands alone when it comes again.
        self.assertIsNone(boost.step())
        self.assertEqual(([rule.shown() for rule in boost.rules], boost.wrongs), ([(1, 0)], [(0, 1)]))
        self.assertEqual(Boost([((1,), True)], 1).run(8), 1)

    def test_a_half_or_more_is_not_taken(self):
        boost = Boost(EITHER, 2)
        self.assertIsNone(boost.step())
        self.assertEqual((boost.rules, boost.wrongs, boost.weights), ([], [], {point: 1 for point, _ in EITHER}))
        self.assertEqual(boost.run(8), 0)
        self.assertEqual((boost.has((0, 1)), boost.count_mistakes()), (False, 2))
        self.assertIs(boost_bound(boost), True)
        # Just below a half one is taken.
        boost.weights[(0, 0)] = 2
        self.assertEqual(boost.step(), (2, 5))
        self.assertEqual(boost.rules[0].shown(), (0, 1))
        self.assertEqual(boost.weights, {(0, 0): 4, (0, 1): 3, (1, 0): 2, (1, 1): 3})

    def test_no_places(self):
        boost = Boost([((), True)], 0)
        self.assertIsNone(boost.step())
        self.assertEqual((boost.run(3), boost.rules, boost.has(())), (0, [], False))

    def test_lighten(self):
        boost = Boost([((0,), True), ((1,), False)], 1)
        boost.weights = {(0,): 12, (1,): 18}
        self.assertIsNone(boost.lighten())
        self.assertEqual(boost.weights, {(0,): 2, (1,): 3})
        boost.lighten()
        self.assertEqual(boost.weights, {(0,): 2, (1,): 3})

    def test_small_by(self):
        self.assertEqual([small_by(12, 18), small_by(0, 5), small_by(7, 3), small_by(4, 4)], [6, 5, 1, 4])

    def test_run(self):
        for most, count in ((0, 0), (1, 1), (2, 2), (3, 3)):
            self.assertEqual(Boost(MOST, 3).run(most), count)
        boost = Boost(MOST, 3)
        self.assertEqual((boost.run(3), boost.run(0), boost.run(2)), (3, 3, 5))
        self.assertEqual(len(boost.rules), 5)
        self.assertEqual(Boost(MOST, 3).run(8), 8)

    def test_run_is_refused_past_eight_and_below_nought(self):
        boost = Boost(MOST, 3)
        boost.step()
        kept = (list(boost.rules), list(boost.wrongs), dict(boost.weights))
        for most in (9, 10, 100, -1):
            with self.assertRaises(BadSize):
                boost.run(most)
        self.assertEqual((boost.rules, boost.wrongs, boost.weights), kept)

    def check_steps(self, examples, many):
        boost = Boost(examples, many)
        weights = {point: Fraction(1) for point in boost.table}
        for _ in range(8):
            wrongs = [sum(weights[point] for point, take in boost.table.items() if (point[place] == bit) != take)
                      for place in range(many) for bit in (0, 1)]
            share = min(wrongs) / sum(weights.values())
            rule = wrongs.index(min(wrongs))
            count = len(boost.rules)
            told = boost.step()
            if share == 0 or 2 * share >= 1:
                self.assertIsNone(told)
                self.assertEqual(boost.wrongs, [(0, 1)] if share == 0 else boost.wrongs[:count])
                break
            self.assertEqual(told, (share.numerator, share.denominator))
            self.assertTrue(is_tuples(told))
            self.assertEqual((boost.wrongs[-1], boost.rules[-1].shown()), (told, (rule // 2, rule % 2)))
            for point, take in boost.table.items():
                weights[point] *= share if (point[rule // 2] == rule % 2) == take else 1 - share
            # Made small: whole numbers that nothing goes into, in the same measure.
            self.assertEqual(gcd(*boost.weights.values()), 1)
            measures = {Fraction(boost.weights[point]) / weights[point] for point in weights}
            self.assertEqual(len(measures), 1)
            self.check_together(boost)
        self.check_together(boost)

    def check_together(self, boost):
        wrong = 0
        for point, take in boost.table.items():
            sides = {True: Fraction(1), False: Fraction(1)}
            if boost.wrongs == [(0, 1)]:
                said = boost.rules[0].has(point)
            else:
                for rule, (top, low) in zip(boost.rules, boost.wrongs):
                    sides[rule.has(point)] *= Fraction(low - top, top)
                said = sides[True] > sides[False]
            self.assertEqual(boost.has(point), said)
            wrong += said != take
        self.assertEqual(boost.count_mistakes(), wrong)
        self.assertIs(boost_bound(boost), True)

    def test_all_tables_of_two_places(self):
        for table in all_tables(2):
            if table:
                self.check_steps(list(table.items()), 2)

    def test_some_examples_within_the_bound(self):
        count = 0
        for examples in some_examples(60, 4, 12, seed=6):
            if examples and not both_ways(examples):
                self.check_steps(examples, 4)
                count += 1
        self.assertGreater(count, 15)

    def test_boost_bound(self):
        boost = Boost([((0,), True), ((1,), True)], 1)
        # One mistake of two: a quarter is no more than four times wrong by right parts.
        boost.rules = [Stump(0, 1)]
        for wrongs, told in ([(1, 4)], True), ([(1, 15)], False), ([(1, 14)], True), ([(0, 1)], False):
            boost.wrongs = wrongs
            self.assertEqual(boost.count_mistakes(), 1)
            self.assertIs(boost_bound(boost), told)
        boost.rules, boost.wrongs = [], []
        self.assertIs(boost_bound(boost), True)


if __name__ == "__main__":
    unittest.main()
