import unittest
from itertools import combinations, product

from lessonwright.errors import BadFormula, BadPaper, BadSize
from lessonwright.ors import (
    Or, OrTeacher, check_edges, crossed, edges, is_top, least_true, learned_or, lot_point, lots_in_order)
from lessonwright.points import all_points, first_unlike, is_under
from makers import Steps


def all_formulas(many):
    """Each rising formula of so many places once: all lots of lots where none is within another."""
    lots = [lot for size in range(many + 1) for lot in combinations(range(many), size)]
    found = {}
    for count in range(len(lots) + 1):
        for chosen in combinations(lots, count):
            if not any(set(one) < set(other) for one, other in product(chosen, repeat=2)):
                found[chosen] = Or(many, chosen)
    return list(found.values())


def some_formulas(count, many, seed=1):
    steps = Steps(seed)
    for _ in range(count):
        yield Or(many, [[place for place in range(many) if steps.below(5) < 2] for _ in range(steps.below(7))])


class Formula(unittest.TestCase):
    def test_fields(self):
        formula = Or(4, [[3, 1], (0,)])
        self.assertEqual((formula.many, formula.lots), (4, [(0,), (1, 3)]))
        self.assertIsInstance(formula.lots, list)

    def test_has(self):
        formula = Or(3, [(0, 1), (2,)])
        self.assertEqual([formula.has(point) for point in all_points(3)],
                         [False, True, False, True, False, True, True, True])
        self.assertIs(formula.has([1, 1, 0]), True)

    def test_shown_in_order(self):
        self.assertEqual(Or(4, [(2, 3), [1, 0], (2, 3), (3, 1)]).shown(), ((0, 1), (1, 3), (2, 3)))
        self.assertEqual(Or(4, [(0, 2), (3,), [1]]).shown(), ((1,), (3,), (0, 2)))
        self.assertIsInstance(Or(4, [[1, 0]]).shown()[0], tuple)

    def test_no_lots_and_the_bare_lot(self):
        for many in range(3):
            for point in all_points(many):
                self.assertIs(Or(many, []).has(point), False)
                self.assertIs(Or(many, [()]).has(point), True)
        self.assertEqual(Or(2, ()).shown(), ())
        self.assertEqual(Or(2, [(0,), ()]).shown(), ((),))

    def test_lots_within_others(self):
        self.assertEqual(Or(4, [(0, 1, 2), (1, 2), (2, 1), (3, 0), (0, 1, 3)]).shown(), ((0, 3), (1, 2)))

    def test_lots_in_order(self):
        lots = [[2, 0, 2], (1,), (0, 2), (1, 2), [0, 1, 2]]
        self.assertEqual(lots_in_order(lots), [(1,), (0, 2)])
        self.assertIsInstance(lots_in_order(()), list)
        self.assertEqual(lots_in_order([]), [])
        self.assertEqual(lots, [[2, 0, 2], (1,), (0, 2), (1, 2), [0, 1, 2]])

    def test_refuses_places_that_are_not_there(self):
        for many, lots in ((2, [(2,)]), (2, [(0, 1), (0, -1)]), (0, [(0,)]), (3, [[1], [2, 3]])):
            with self.subTest(many=many, lots=lots), self.assertRaises(BadFormula):
                Or(many, lots)

    def test_lot_point(self):
        self.assertEqual(lot_point([2, 0], 4), (1, 0, 1, 0))
        self.assertEqual(lot_point((), 2), (0, 0))


class Taught(unittest.TestCase):
    def test_points_count_once(self):
        formula = Or(2, [(0,)])
        teacher = OrTeacher(formula)
        self.assertEqual((teacher.many, teacher.asked, teacher.guesses), (2, {}, 0))
        self.assertIs(teacher.hidden, formula)
        self.assertIs(teacher.has((1, 0)), True)
        self.assertIs(teacher.has([1, 0]), True)
        self.assertIs(teacher.has((0, 1)), False)
        self.assertEqual(teacher.asked, {(1, 0): True, (0, 1): False})

    def test_first_wrong_point(self):
        teacher = OrTeacher(Or(3, [(0,), (1, 2)]))
        self.assertEqual(teacher.wrong_at(Or(3, [])), (0, 1, 1))
        self.assertEqual(teacher.wrong_at(Or(3, [()])), (0, 0, 0))
        self.assertIsNone(teacher.wrong_at(Or(3, [(1, 2), (0,)])))
        self.assertEqual((teacher.guesses, teacher.asked), (3, {}))

    def test_refused_changes_nothing(self):
        teacher = OrTeacher(Or(11, [(0,)]))
        with self.assertRaises(BadSize):
            teacher.wrong_at(Or(11, []))
        self.assertEqual((teacher.guesses, teacher.asked), (0, {}))

    def test_least_true(self):
        formula = Or(4, [(0, 1), (3,), (1, 2)])
        self.assertEqual(least_true(formula.has, (1, 1, 1, 0)), (0, 1, 1, 0))
        self.assertEqual(least_true(formula.has, [1, 1, 1, 1]), (0, 0, 0, 1))
        self.assertEqual(least_true(formula.has, (0, 0, 0, 1)), (0, 0, 0, 1))
        self.assertEqual(least_true(lambda point: True, (1, 0, 1)), (0, 0, 0))
        self.assertIsInstance(least_true(lambda point: False, [1, 1]), tuple)

    def learn(self, formula):
        teacher = OrTeacher(formula)
        found = learned_or(teacher)
        self.assertIsNone(first_unlike(found.has, formula.has, formula.many))
        self.assertEqual(found.shown(), formula.shown())
        # As many wrong guesses as there are lots, and the last one, which is right.
        self.assertEqual(teacher.guesses, len(formula.lots) + 1)
        self.assertLessEqual(len(teacher.asked), len(formula.lots) * (formula.many + 1))

    def test_learns_all_formulas(self):
        for many, count in ((0, 2), (1, 3), (2, 6), (3, 20)):
            formulas = all_formulas(many)
            self.assertEqual(len(formulas), count)
            for formula in formulas:
                self.learn(formula)

    def test_learns_larger_formulas(self):
        for formula in some_formulas(40, 6):
            self.learn(formula)

    def test_refuses_past_ten(self):
        with self.assertRaises(BadSize):
            learned_or(OrTeacher(Or(11, [(0,)])))


class Papers(unittest.TestCase):
    def test_edges(self):
        formula = Or(3, [(0, 1), (2,)])
        self.assertEqual(edges(formula), (((0, 0, 1), (1, 1, 0)), ((0, 1, 0), (1, 0, 0))))
        self.assertEqual(edges(Or(2, [])), ((), ((1, 1),)))
        self.assertEqual(edges(Or(2, [()])), (((0, 0),), ()))
        for part in edges(formula):
            self.assertIsInstance(part, tuple)

    def test_edges_against_all_points(self):
        for formula in all_formulas(3):
            points = all_points(3)
            right = [point for point in points if formula.has(point)]
            wrong = [point for point in points if not formula.has(point)]
            self.assertEqual(edges(formula), (
                tuple(one for one in right if not any(other != one and is_under(other, one) for other in right)),
                tuple(one for one in wrong if not any(other != one and is_under(one, other) for other in wrong))))

    def test_is_top(self):
        formula = Or(3, [(0, 1), (2,)])
        self.assertIs(is_top(formula, (0, 1, 0)), True)
        self.assertIs(is_top(formula, (0, 0, 0)), False)
        self.assertIs(is_top(formula, (1, 1, 1)), True)
        self.assertIs(is_top(Or(2, []), [1, 0]), False)

    def test_papers_are_taken(self):
        for formula in all_formulas(3) + list(some_formulas(10, 5)):
            self.assertIs(check_edges(formula.has, formula.many, formula, edges(formula)), True)
        formula = Or(2, [(1,)])
        self.assertIs(check_edges(formula.has, 2, formula, [[[0, 1]], [[1, 0]]]), True)

    def test_papers_are_taken_for_nothing_else(self):
        for one, other in product(all_formulas(2), repeat=2):
            if one.shown() != other.shown():
                for has, formula, papers in ((one.has, one, edges(other)), (one.has, other, edges(one)),
                                             (other.has, one, edges(one)), (one.has, other, edges(other))):
                    with self.assertRaises(BadPaper):
                        check_edges(has, 2, formula, papers)

    def test_refuses_each_wrong_paper(self):
        formula = Or(3, [(0, 1), (2,)])
        low, high = edges(formula)
        for papers in ((low + ((0, 1, 0),), high), (low, high + ((1, 1, 0),)), (low[1:], high), (low, high[1:]),
                       ((), ()), (high, low), ((), high), (low, ())):
            with self.subTest(papers=papers), self.assertRaises(BadPaper):
                check_edges(formula.has, 3, formula, papers)
        # More points than are needed show it, too.
        self.assertIs(check_edges(formula.has, 3, formula, (low + ((1, 1, 1),), high + ((0, 0, 0),))), True)

    def test_refuses_another_formula_where_only_it_is_wrong(self):
        formula = Or(2, [(0, 1)])
        with self.assertRaises(BadPaper):
            check_edges(formula.has, 2, Or(2, [(0,)]), edges(formula))

    def test_refuse_past_ten(self):
        for asked in (lambda: edges(Or(11, [])),
                      lambda: check_edges(Or(11, []).has, 11, Or(11, []), ((), ((1,) * 11,)))):
            with self.assertRaises(BadSize):
                asked()


class TurnedOver(unittest.TestCase):
    def test_crossed(self):
        self.assertEqual(crossed(Or(4, [(0, 1), (2, 3)])), ((0, 2), (0, 3), (1, 2), (1, 3)))
        self.assertEqual(crossed(Or(3, [(0,), (1, 2)])), ((0, 1), (0, 2)))
        self.assertEqual(crossed(Or(3, [(0, 1), (1, 2)])), ((1,), (0, 2)))

    def test_no_lots_and_the_bare_lot(self):
        self.assertEqual(crossed(Or(2, [])), ((),))
        self.assertEqual(crossed(Or(2, [()])), ())

    def test_is_the_formula_turned_over(self):
        for formula in all_formulas(3):
            other = Or(3, crossed(formula))
            self.assertEqual(other.shown(), crossed(formula))
            for point in all_points(3):
                turned = tuple(1 - bit for bit in point)
                self.assertEqual(other.has(point), not formula.has(turned))
            self.assertEqual(crossed(other), formula.shown())


if __name__ == "__main__":
    unittest.main()
