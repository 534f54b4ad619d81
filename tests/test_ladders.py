import unittest
from itertools import permutations, product

from lessonwright.errors import BadExample, BadPaper
from lessonwright.ladders import (
    Ladder, check_none, ladder_agrees, learned_ladder, next_step, shortened, trimmed, turned_ladder)
from lessonwright.points import all_points, table_of
from makers import all_tables


def all_ladders(many):
    """All ladders of so many places whose steps ask each (place, bit) once at most."""
    asks = list(product(range(many), (0, 1)))
    for size in range(len(asks) + 1):
        for chosen in permutations(asks, size):
            for answers in product((False, True), repeat=size + 1):
                yield Ladder([(*ask, answer) for ask, answer in zip(chosen, answers)], answers[-1])


EITHER = {(0, 0): False, (0, 1): True, (1, 0): True, (1, 1): False}


class Steps(unittest.TestCase):
    def test_fields(self):
        ladder = Ladder([[0, 1, True], (1, 0, False)], True)
        self.assertEqual((ladder.steps, ladder.last), (((0, 1, True), (1, 0, False)), True))
        self.assertEqual(ladder.shown(), (((0, 1, True), (1, 0, False)), True))
        self.assertEqual(Ladder([], False).shown(), ((), False))

    def test_has(self):
        ladder = Ladder([(0, 1, True), (1, 0, False)], True)
        self.assertEqual([ladder.has(point) for point in all_points(2)], [False, True, True, True])
        self.assertIs(ladder.has([0, 0]), False)
        self.assertIs(Ladder((), False).has(()), False)

    def test_turned(self):
        for ladder in all_ladders(2):
            turned = turned_ladder(ladder)
            self.assertEqual([turned.has(point) for point in all_points(2)],
                             [not ladder.has(point) for point in all_points(2)])
            self.assertEqual([step[:2] for step in turned.steps], [step[:2] for step in ladder.steps])
        self.assertEqual(turned_ladder(Ladder([(0, 1, True)], True)).shown(), (((0, 1, False),), False))

    def test_agrees(self):
        ladder = Ladder([(0, 1, True)], False)
        self.assertIs(ladder_agrees(ladder, [((1, 0), True), ([0, 0], False)]), True)
        self.assertIs(ladder_agrees(ladder, [((1, 0), True), ((0, 0), True)]), False)
        self.assertIs(ladder_agrees(ladder, []), True)


class Learned(unittest.TestCase):
    def test_next_step(self):
        self.assertEqual(next_step({(0, 1): True, (1, 0): False, (1, 1): True}, 2), (0, 0, True))
        self.assertEqual(next_step({(0, 1): False, (0, 0): True, (1, 1): True, (1, 0): True}, 2), (0, 1, True))
        self.assertEqual(next_step({(0, 1, 0): False, (0, 0, 1): True, (1, 1, 1): True, (1, 0, 1): False,
                                    (0, 1, 1): True}, 3), (2, 0, False))
        self.assertIsNone(next_step(EITHER, 2))
        self.assertIsNone(next_step({}, 2))
        self.assertIsNone(next_step({(): True}, 0))
        # Places whose bit no point has are no step.
        self.assertEqual(next_step({(1, 0): True, (1, 1): False}, 2), (1, 0, True))

    def test_learned(self):
        ladder, points = learned_ladder([((0, 1), True), ([1, 0], False), ((1, 1), True)], 2)
        self.assertEqual((ladder.shown(), points), ((((0, 0, True), (1, 0, False)), True), None))
        ladder, points = learned_ladder([((0, 0), True), ((1, 0), False), ((1, 1), False)], 2)
        self.assertEqual((ladder.shown(), points), ((((0, 0, True),), False), None))
        self.assertIsInstance(learned_ladder([], 2), tuple)

    def test_no_examples_and_one_answer(self):
        for many in range(3):
            self.assertEqual(learned_ladder([], many)[0].shown(), ((), False))
        self.assertEqual(learned_ladder([((), True)], 0)[0].shown(), ((), True))
        self.assertEqual(learned_ladder([((0, 1), True), ((1, 0), True)], 2)[0].shown(), ((), True))

    def test_none_agrees(self):
        self.assertEqual(learned_ladder(list(EITHER.items())[::-1], 2), (None, ((0, 0), (0, 1), (1, 0), (1, 1))))
        told = [((*point, 1), take) for point, take in EITHER.items()] + [((1, 1, 0), True)]
        self.assertEqual(learned_ladder(told, 3), (None, ((0, 0, 1), (0, 1, 1), (1, 0, 1), (1, 1, 1))))

    def test_against_all_ladders(self):
        for many in range(3):
            rules = {table_of(ladder.has, many) for ladder in all_ladders(many)}
            for table in all_tables(many):
                examples = list(table.items())
                may_be = any(all(rule[place] == table.get(point, rule[place])
                                 for place, point in enumerate(all_points(many))) for rule in rules)
                self.check(examples, many, may_be)

    def test_all_rules_of_three_places(self):
        rules = {table_of(ladder.has, 3) for ladder in all_ladders(3)}
        for told in product((False, True), repeat=8):
            self.check(list(zip(all_points(3), told)), 3, told in rules)

    def check(self, examples, many, may_be):
        ladder, points = learned_ladder(examples, many)
        if may_be:
            self.assertIsNone(points)
            self.assertTrue(ladder_agrees(ladder, examples))
        else:
            self.assertIsNone(ladder)
            self.assertEqual(points, tuple(sorted(points)))
            self.assertIs(check_none(examples, many, points), True)

    def test_refuses_what_cannot_be_told(self):
        for examples in ([((0, 1), True), ((0, 1), False)], [((0,), True)], [((0, 2), True)]):
            with self.assertRaises(BadExample):
                learned_ladder(examples, 2)
            with self.assertRaises(BadExample):
                check_none(examples, 2, [(0, 1)])


class Papers(unittest.TestCase):
    def test_takes_lists_and_tuples(self):
        self.assertIs(check_none(list(EITHER.items()), 2, [[1, 1], [0, 0], (0, 1), (1, 0)]), True)
        self.assertIs(check_none([((0, 1), True)] + list(EITHER.items()), 2, tuple(EITHER)), True)

    def test_refuses_points_that_show_nothing(self):
        examples = list(EITHER.items())
        # Too few, not told, told one way, with a step that could be.
        for points in ((), ((0, 0),), ((0, 0), (0, 0)), ((0, 0), (1, 1)), ((0, 0), (0, 1)),
                       ((0, 0), (0, 1), (1, 1)), ((0, 0), (0, 1), (1, 0))):
            with self.subTest(points=points), self.assertRaises(BadPaper):
                check_none(examples, 2, points)
        with self.assertRaises(BadPaper):
            check_none(examples[1:], 2, tuple(EITHER))
        with self.assertRaises(BadPaper):
            check_none([((), True)], 0, [()])

    def test_papers_are_taken_for_nothing_else(self):
        for table in all_tables(2):
            if table == EITHER or table == {point: not take for point, take in EITHER.items()}:
                continue
            for points in (tuple(table), all_points(2)):
                with self.assertRaises(BadPaper):
                    check_none(list(table.items()), 2, points)


class Shorter(unittest.TestCase):
    def test_steps_that_no_point_comes_to(self):
        self.assertEqual(shortened(Ladder([(0, 1, True), (0, 1, False), (1, 0, True)], False)).shown(),
                         (((0, 1, True), (1, 0, True)), False))
        self.assertEqual(shortened(Ladder([(0, 1, True), (1, 1, False), (0, 0, False), (1, 0, True)], True)).shown(),
                         (((0, 1, True), (1, 1, False), (0, 0, False)), True))

    def test_steps_at_the_end(self):
        self.assertEqual(shortened(Ladder([(0, 1, True), (1, 0, False), (2, 1, False)], False)).shown(),
                         (((0, 1, True),), False))
        self.assertEqual(shortened(Ladder([(0, 1, True), (1, 0, True)], True)).shown(), ((), True))
        self.assertEqual(shortened(Ladder([(0, 0, True), (0, 1, False), (1, 0, True)], False)).shown(),
                         (((0, 0, True),), False))

    def test_tells_the_same(self):
        for steps in product(product((0, 1), (0, 1), (False, True)), repeat=3):
            for last in (False, True):
                ladder = Ladder(steps, last)
                short = shortened(ladder)
                self.assertEqual(table_of(short.has, 2), table_of(ladder.has, 2))
                self.assertLessEqual(len(short.steps), len(ladder.steps))
                for place, step in enumerate(short.steps):
                    # Each step that is left tells some point that no step ahead of it tells.
                    self.assertTrue(any(point[step[0]] == step[1] and not any(
                        point[ahead[0]] == ahead[1] for ahead in short.steps[:place]) for point in all_points(2)))
                self.assertFalse(short.steps and short.steps[-1][2] == last)

    def test_trimmed(self):
        steps = [(0, 1, True), (1, 0, False), (1, 1, False)]
        self.assertEqual(trimmed(steps, False), [(0, 1, True)])
        self.assertEqual(trimmed(steps, True), steps)
        self.assertEqual(trimmed(tuple(steps), True), steps)
        self.assertEqual(trimmed((), True), [])
        self.assertEqual(len(steps), 3)


if __name__ == "__main__":
    unittest.main()
