import unittest
from itertools import combinations, product

from lessonwright.errors import BadPaper, BadSize
from lessonwright.queries import (
    alike_things, any_tree, asked_for, check_asking, check_questions, check_things, depths, least_of, least_questions,
    places_in, query_costs, questions_of)
from makers import Steps, is_tuples


def all_trees(places):
    """All trees of some places, pairs within pairs, but for sides that are exchanged."""
    if len(places) == 1:
        yield places[0]
        return
    first, rest = places[0], places[1:]
    for size in range(len(rest)):
        for some in combinations(rest, size):
            others = tuple(place for place in rest if place not in some)
            for one in all_trees((first,) + some):
                for other in all_trees(others):
                    yield one, other


def cost_anew(tree, weights, depth=0):
    if isinstance(tree, int):
        return weights[tree] * depth
    return sum(cost_anew(side, weights, depth + 1) for side in tree)


def least_anew(things, weights, questions):
    """The least questions in all, by trying all of them at each step; None where things can't be told apart."""
    if len(things) == 1:
        return 0
    found = []
    for lot in questions:
        sides = [[thing for thing in things if (thing in lot) == told] for told in (False, True)]
        if all(sides):
            costs = [least_anew(side, weights, questions) for side in sides]
            if None not in costs:
                found.append(sum(weights[thing] for thing in things) + sum(costs))
    return min(found, default=None)


def some_questions(count, most, seed=1):
    """Some weights of up to so many things, and some questions about them."""
    steps = Steps(seed)
    for _ in range(count):
        many = 1 + steps.below(most)
        weights = [1 + steps.below(5) for _ in range(many)]
        yield weights, [[place for place in range(many) if steps.below(2)] for _ in range(steps.below(6))]


class Things(unittest.TestCase):
    def test_check_things(self):
        self.assertEqual(check_things((3, 1, 1)), [3, 1, 1])
        self.assertIsInstance(check_things((3,)), list)

    def test_refused(self):
        for weights in ([], (), [0], [2, 0], [3, -1, 2]):
            for asked in (check_things, any_tree, lambda told: query_costs(told, []),
                          lambda told: least_questions(told, []), lambda told: asked_for(told, [], 0)):
                with self.subTest(weights=weights), self.assertRaises(BadSize):
                    asked(weights)


class AnyLot(unittest.TestCase):
    def test_any_tree(self):
        self.assertEqual(any_tree([5]), 0)
        self.assertEqual(any_tree([5, 2]), (1, 0))
        self.assertEqual(any_tree((1, 2, 4)), ((0, 1), 2))
        self.assertEqual(any_tree([4, 1, 2]), ((1, 2), 0))
        self.assertTrue(is_tuples(any_tree([1, 2, 4])))

    def test_first_of_alike_ones(self):
        self.assertEqual(any_tree([1, 1]), (0, 1))
        self.assertEqual(any_tree([1, 1, 1]), (2, (0, 1)))
        self.assertEqual(any_tree([1, 1, 1, 1]), ((0, 1), (2, 3)))
        # What was put together comes behind a thing of the same weight, and behind what was put together earlier.
        self.assertEqual(any_tree([1, 1, 2, 2]), ((0, 1), (2, 3)))
        self.assertEqual(any_tree([1, 1, 2]), (2, (0, 1)))
        self.assertEqual(any_tree([1, 1, 1, 1, 2]), ((2, 3), (4, (0, 1))))

    def test_least_of_all_trees(self):
        for many in (1, 2, 3, 4, 5):
            trees = list(all_trees(tuple(range(many))))
            for weights in list(product((1, 2, 5), repeat=many))[::1 if many < 5 else 7]:
                tree = any_tree(weights)
                self.assertEqual(check_asking(tree, weights), min(cost_anew(one, weights) for one in trees))

    def test_depths(self):
        self.assertEqual(depths(0), {0: 0})
        self.assertEqual(depths(((2, 0), 1)), {2: 2, 0: 2, 1: 1})
        self.assertIsInstance(depths(3), dict)

    def test_questions_of(self):
        self.assertEqual(questions_of(((2, 0), 1), [1, 5, 3]), 13)
        self.assertEqual(questions_of(0, [7]), 0)

    def test_places_in(self):
        self.assertEqual(places_in(((2, 0), (1, 3))), [2, 0, 1, 3])
        self.assertEqual(places_in(4), [4])
        self.assertIsInstance(places_in(4), list)

    def test_check_asking(self):
        self.assertEqual(check_asking((1, (0, 2)), (4, 4, 1)), 14)
        self.assertEqual(check_asking(0, [3]), 0)
        for tree, weights in (((0, 1), [1]), ((0, 1), [1, 1, 1]), ((0, 0), [1, 1]), ((0, 2), [1, 1]),
                              ((0, (1, 1)), [1, 1]), (1, [1]), ((1, 2), [1, 1]), ((-1, 0), [1, 1]), (0, []),
                              ((0, (1, 0)), [1, 1, 1])):
            with self.subTest(tree=tree), self.assertRaises(BadPaper):
                check_asking(tree, weights)


class Told(unittest.TestCase):
    def test_check_questions(self):
        self.assertEqual(check_questions([[2, 0, 2], (), (1,)], 3), [(0, 2), (), (1,)])
        self.assertEqual(check_questions((), 3), [])
        self.assertIsInstance(check_questions(((1,),), 3), list)
        self.assertTrue(is_tuples(check_questions([[2, 0]], 3)[0]))

    def test_places_that_are_not_there(self):
        for questions in ([(3,)], [(0, 1), (-1,)], [(0, 7)]):
            for asked in (lambda: check_questions(questions, 3), lambda: query_costs([1, 1, 1], questions),
                          lambda: least_questions([1, 1, 1], questions), lambda: asked_for([1, 1, 1], questions, 0),
                          lambda: alike_things(questions, 3)):
                with self.subTest(questions=questions), self.assertRaises(BadSize):
                    asked()

    def test_query_costs(self):
        self.assertEqual(query_costs([4], []), {(0,): (0, None)})
        found = query_costs([1, 2, 3], [(0,), [1, 1]])
        self.assertIsInstance(found, dict)
        # First nought: 6 and 5 of the others; first one: 6 and 4 of the others.
        self.assertEqual(found, {
            (0, 1, 2): (10, 1), (0, 2): (4, 0), (1, 2): (5, 1), (0,): (0, None), (1,): (0, None), (2,): (0, None)})

    def test_lots_alike(self):
        # Nothing tells one and two apart, so nothing is known of any.
        found = query_costs([1, 1, 1], [(0,), (1, 2)])
        self.assertEqual(found, {(0, 1, 2): None, (1, 2): None, (0,): (0, None)})
        self.assertIsNone(least_questions([1, 1, 1], [(0,), (1, 2)]))
        self.assertIsNone(least_questions([1, 1], []))
        for thing in range(3):
            with self.assertRaises(BadSize):
                asked_for([1, 1, 1], [(0,), (1, 2)], thing)

    def test_questions_that_none_or_all_answer(self):
        self.assertIsNone(least_questions([1, 1], [(), (0, 1)]))
        self.assertEqual(query_costs([1, 2], [(), (0, 1), (1,)]), {(0, 1): (3, 2), (0,): (0, None), (1,): (0, None)})
        self.assertEqual(asked_for([1, 2], [(), (0, 1), (1,)], 1), ((2, True),))

    def test_first_question_of_alike_ones(self):
        self.assertEqual(query_costs([1, 1], [(1,), (0,)])[0, 1], (2, 0))
        self.assertEqual(query_costs([2, 2, 2], [(2,), (0,), (1,)])[0, 1, 2], (10, 0))
        self.assertEqual(asked_for([2, 2, 2], [(2,), (0,), (1,)], 1), ((0, False), (1, False)))

    def test_one_thing_alone(self):
        self.assertEqual(least_questions([9], [(0,), ()]), 0)
        self.assertEqual(asked_for([9], [(0,)], 0), ())
        self.assertIsNone(alike_things([], 1))

    def test_a_thing_that_is_not_there(self):
        for thing in (3, -1):
            with self.assertRaises(BadSize):
                asked_for([1, 1, 1], [(0,), (1,)], thing)

    def test_least_of(self):
        found = {}
        self.assertEqual(least_of([0, 2], [1, 2, 3], [(0,), (1,)], found), 4)
        self.assertEqual(found, {(0, 2): (4, 0), (0,): (0, None), (2,): (0, None)})
        # What is noted already is not asked again.
        noted = {(0, 1): (77, 5)}
        self.assertEqual(least_of((0, 1), [1, 1], [(0,)], noted), 77)
        self.assertEqual(noted, {(0, 1): (77, 5)})
        self.assertIsNone(least_of((0, 1), [1, 1], [(0,)], {(0, 1): None}))

    def test_against_all_ways(self):
        apart = 0
        for weights, questions in some_questions(80, 5, seed=2):
            things = list(range(len(weights)))
            least = least_anew(things, weights, questions)
            self.assertEqual(least_questions(weights, questions), least)
            found = query_costs(weights, questions)
            for lot, cost in found.items():
                told = least_anew(lot, weights, questions)
                self.assertEqual(None if cost is None else cost[0], told)
            if least is None:
                continue
            apart += 1
            ways = [asked_for(weights, questions, thing) for thing in things]
            self.assertEqual(sum(weight * len(way) for weight, way in zip(weights, ways)), least)
            self.assertEqual(len(set(ways)), len(ways))
            for thing, way in enumerate(ways):
                self.assertTrue(is_tuples(way))
                self.assertTrue(all((thing in questions[number]) is answer for number, answer in way))
                # Who gives all these answers is the thing alone.
                self.assertEqual([thing], [other for other in things if all(
                    (other in questions[number]) == answer for number, answer in way)])
        self.assertGreater(apart, 25)

    def test_any_lot_is_no_dearer(self):
        for weights, questions in some_questions(30, 4, seed=7):
            things = range(len(weights))
            every = [lot for size in things for lot in combinations(things, size)]
            self.assertEqual(least_questions(weights, every), questions_of(any_tree(weights), weights))
            told = least_questions(weights, questions)
            self.assertTrue(told is None or told >= questions_of(any_tree(weights), weights))

    def test_alike_things(self):
        self.assertEqual(alike_things([(0,), [1, 2]], 3), (1, 2))
        self.assertEqual(alike_things([], 3), (0, 1))
        self.assertEqual(alike_things([(0, 2), (0, 2, 1)], 4), (0, 2))
        self.assertIsNone(alike_things([(0,), (1,)], 3))
        self.assertIsNone(alike_things([(), []], 0))
        self.assertTrue(is_tuples(alike_things([], 2)))
        for weights, questions in some_questions(60, 5, seed=4):
            pairs = [pair for pair in combinations(range(len(weights)), 2) if not any(
                (pair[0] in lot) != (pair[1] in lot) for lot in questions)]
            self.assertEqual(alike_things(questions, len(weights)), pairs[0] if pairs else None)
            self.assertEqual(least_questions(weights, questions) is None, bool(pairs))


if __name__ == "__main__":
    unittest.main()
