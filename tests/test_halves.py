import unittest
from itertools import combinations, permutations, product

from lessonwright.errors import BadExample, BadPaper, BadSize
from lessonwright.halves import (
    Careful, Halving, check_hard, check_rules, checked_hard, fewest, fewest_of, hard_tree, kept, most_halvings, worst)
from makers import Steps

T, F = True, False
SINGLES = [tuple(place == one for place in range(4)) for one in range(4)]


def all_lots(questions):
    """All lots of rules for so many questions, but for no rules at all."""
    rules = list(product((F, T), repeat=questions))
    return [lot for count in range(1, len(rules) + 1) for lot in combinations(rules, count)]


def some_lots(count, questions, most, seed=1):
    steps = Steps(seed)
    for _ in range(count):
        yield [tuple(steps.below(2) == 1 for _ in range(questions)) for _ in range(1 + steps.below(most))]


def held_to(rules):
    """The fewest mistakes that any learner can be held to, by trying all questions, guesses and answers."""
    rows = sorted(set(map(tuple, rules)))
    most = 0
    for question in range(len(rows[0])):
        sides = [[rule for rule in rows if rule[question] == answer] for answer in (F, T)]
        if sides[0] and sides[1]:
            most = max(most, min(1 + held_to(side) for side in sides))
    return most


class Rules(unittest.TestCase):
    def test_each_once_in_order(self):
        self.assertEqual(check_rules([[T, F], (F, T), (T, F), (F, F)]), [(F, F), (F, T), (T, F)])
        self.assertIsInstance(check_rules(((T,),)), list)
        self.assertIsInstance(check_rules([[T]])[0], tuple)

    def test_refuses_none_and_unlike_lengths(self):
        for rules in ([], (), [()], [[], []], [(T,), (T, F)], [(), (T,)]):
            for asked in (check_rules, Halving, Careful, fewest, lambda told: hard_tree(told, 0),
                          lambda told: check_hard(told, (T,))):
                with self.assertRaises(BadSize):
                    asked(rules)

    def test_kept(self):
        rules = [(T, F), (F, F), (T, T)]
        self.assertEqual(kept(rules, 0, T), [(T, F), (T, T)])
        self.assertEqual(kept(rules, 1, F), [(T, F), (F, F)])
        self.assertEqual(kept(rules[:1], 0, F), [])
        self.assertEqual(len(rules), 3)

    def test_most_halvings(self):
        self.assertEqual([most_halvings(many) for many in (1, 2, 3, 4, 5, 7, 8, 9, 1024)],
                         [0, 1, 1, 2, 2, 2, 3, 3, 10])


class Learners(unittest.TestCase):
    def test_fields(self):
        for made in (Halving, Careful):
            learner = made([[T, F], (F, T), (T, F)])
            self.assertEqual((learner.rules, learner.mistakes), ([(F, T), (T, F)], 0))
            self.assertIsInstance(learner.rules, list)

    def test_halving_says_what_most_say(self):
        learner = Halving([(F, T, F), (F, T, T), (T, F, F)])
        self.assertEqual([learner.guess(question) for question in range(3)], [F, T, F])
        self.assertIs(Halving([(F,), (T,)]).guess(0), True)

    def test_halving_sees(self):
        learner = Halving([(F, F), (F, T), (T, F)])
        self.assertIs(learner.see(0, F), False)
        self.assertEqual((learner.rules, learner.mistakes), ([(F, F), (F, T)], 0))
        self.assertIs(learner.see(1, F), True)
        self.assertEqual((learner.rules, learner.mistakes), ([(F, F)], 1))

    def test_careful_says_the_harder_side(self):
        # Three rules say no and two say yes, but those that say yes are as hard.
        rules = [(F, T, F, F), (F, F, T, F), (F, F, F, T), (T, T, F, F), (T, F, F, F)]
        self.assertIs(Careful(rules).guess(0), True)
        self.assertIs(Halving(rules).guess(0), False)
        rules = [(F, T, F), (F, F, T), (T, F, F)]
        self.assertIs(Careful(rules).guess(0), False)
        self.assertIs(Careful(rules + [(T, T, T)]).guess(0), True)

    def test_one_side_alone(self):
        for made in (Halving, Careful):
            for answer in (F, T):
                self.assertIs(made([(answer,)]).guess(0), answer)
                self.assertIs(made([(answer, F), (answer, T)]).guess(0), answer)
            self.assertIs(made([(F,), (T,)]).guess(0), True)

    def test_careful_sees(self):
        learner = Careful(SINGLES)
        self.assertIs(learner.see(2, F), False)
        self.assertEqual((len(learner.rules), learner.mistakes), (3, 0))
        self.assertIs(learner.see(0, T), False)
        self.assertEqual((learner.rules, learner.mistakes), ([SINGLES[0]], 1))

    def test_refused_changes_nothing(self):
        for made in (Halving, Careful):
            learner = made([(T, F), (T, T)])
            learner.see(1, T)
            before = (list(learner.rules), learner.mistakes)
            for question in (0, 1):
                with self.assertRaises(BadExample):
                    learner.see(question, F)
            self.assertEqual((learner.rules, learner.mistakes), before)

    def test_no_more_mistakes_than_told_on_any_row(self):
        for rules in list(all_lots(2)) + list(some_lots(25, 3, 8, seed=6)):
            bounds = (most_halvings(len(check_rules(rules))), fewest(rules))
            self.assertLessEqual(bounds[1], bounds[0])
            for rule, row in product(check_rules(rules), permutations(range(len(rules[0])))):
                for made, bound in zip((Halving, Careful), bounds):
                    learner = made(rules)
                    wrong = sum(learner.see(question, rule[question]) != rule[question] for question in row)
                    self.assertEqual(learner.mistakes, wrong)
                    self.assertLessEqual(wrong, bound)
                    self.assertIn(rule, learner.rules)
                    # All was asked, so what is left answers everything.
                    self.assertEqual(learner.rules, [rule])


class Fewest(unittest.TestCase):
    def test_fewest(self):
        self.assertEqual(fewest([(T, F, T)]), 0)
        self.assertEqual(fewest([[T, F], (T, F)]), 0)
        self.assertEqual(fewest(SINGLES), 1)
        self.assertEqual(fewest(list(product((F, T), repeat=3))), 3)
        self.assertEqual(fewest([tuple(place < edge for place in range(7)) for edge in range(8)]), 3)

    def test_against_all_ways(self):
        for rules in all_lots(2) + list(some_lots(60, 4, 9, seed=2)):
            self.assertEqual(fewest(rules), held_to(rules))

    def test_fewest_of(self):
        rules = check_rules(SINGLES)
        self.assertEqual(fewest_of(rules, {}), 1)
        self.assertEqual(fewest_of(rules, {tuple(rules): 5}), 5)

    def test_many_rules(self):
        self.assertEqual(fewest([tuple(place == one for place in range(40)) for one in range(40)]), 1)


class Hard(unittest.TestCase):
    def test_hard_tree(self):
        self.assertEqual(hard_tree([(F, F), (F, T), (T, F), (T, T)], 2),
                         (0, (1, (F, F), (F, T)), (1, (T, F), (T, T))))
        # The first question that may be; Falses first where any rule may stand.
        self.assertEqual(hard_tree([(T, T, T), (T, T, F), (T, F, F)], 1), (1, (T, F, F), (T, T, F)))
        self.assertEqual(hard_tree([(T, F), (F, T)], 0), (F, T))
        self.assertEqual(hard_tree([(F, F, F), (F, F, T), (F, T, F), (F, T, T), (T, F, F)], 2),
                         (1, (0, (F, F, F), (T, F, F)), (2, (F, T, F), (F, T, T))))
        self.assertIsInstance(hard_tree([[T]], 0), tuple)

    def test_refuses_what_is_too_hard(self):
        for rules in (SINGLES, [(T,)], list(product((F, T), repeat=2))):
            for depth in (fewest(rules) + 1, fewest(rules) + 5, -1):
                with self.assertRaises(BadSize):
                    hard_tree(rules, depth)

    def test_trees_hold_both_learners(self):
        for rules in all_lots(2) + list(some_lots(40, 4, 9, seed=3)):
            for depth in range(fewest(rules) + 1):
                tree = hard_tree(rules, depth)
                self.assertEqual(check_hard(rules, tree), depth)
                for made in (Halving, Careful):
                    learner = made(rules)
                    self.assertEqual(worst(learner, tree), depth)
                    self.assertEqual(learner.mistakes, depth)

    def test_check_hard(self):
        rules = [(F, F), (F, T), (T, F), (T, T)]
        self.assertEqual(check_hard(rules, [0, [1, [F, F], [F, T]], (1, (T, F), (T, T))]), 2)
        self.assertEqual(check_hard(rules, (1, (T, F), (F, T))), 1)
        self.assertEqual(check_hard(rules, (T, F)), 0)
        self.assertEqual(check_hard([(T, F, T), (F, F, F)], (T, F, T)), 0)

    def test_refuses_each_wrong_tree(self):
        rules = [(F, F), (F, T), (T, F)]
        for tree in ((T, T), (0, (F, F), (T, T)),                       # a rule that isn't there
                     (0, (T, F), (F, F)), (0, (F, F), (F, T)),          # not right on its way
                     (0, (1, (F, F), (F, T)), (T, F)),                  # uneven
                     (1, (0, (F, F), (T, F)), (F, T)),
                     (1, (0, (T, F), (F, F)), (0, (F, T), (F, T))),
                     (2, (F, F), (T, F)), (-1, (F, F), (F, T))):        # a question that isn't there
            with self.subTest(tree=tree), self.assertRaises(BadPaper):
                check_hard(rules, tree)
        self.assertEqual(check_hard(rules, (0, (F, F), (T, F))), 1)

    def test_refuses_sides_exchanged(self):
        for rules in all_lots(2):
            if fewest(rules) > 0:
                question, low, high = hard_tree(rules, fewest(rules))
                with self.assertRaises(BadPaper):
                    check_hard(rules, (question, high, low))

    def test_no_tree_that_is_taken_is_deeper(self):
        def grown(rules, depth):
            if depth == 0:
                return list(rules)
            below = grown(rules, depth - 1)
            return below + [(question, low, high) for question in range(2) for low in below for high in below]
        for rules in all_lots(2):
            for tree in grown(rules, 2):
                try:
                    depth = check_hard(rules, tree)
                except BadPaper:
                    continue
                self.assertLessEqual(depth, fewest(rules))

    def test_checked_below_a_way(self):
        rules = [(F, F), (F, T)]
        self.assertEqual(checked_hard(rules, (F, T), ((0, F), (1, T))), 0)
        self.assertEqual(checked_hard(rules, (1, (F, F), (F, T)), ((0, F),)), 1)
        for tree, way in (((F, T), ((0, T),)), ((F, T), [(0, F), (1, F)]), ((1, (F, F), (F, T)), ((0, T),))):
            with self.assertRaises(BadPaper):
                checked_hard(rules, tree, way)


if __name__ == "__main__":
    unittest.main()
