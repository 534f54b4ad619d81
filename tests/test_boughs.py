import unittest
from itertools import product

from lessonwright.boughs import (
    best, check_costs, check_tree, checked, cost_of, depth, greedy, grown, grown_greedy, halves, has, rarer, size,
    table_key, tree_agrees, tree_costs)
from lessonwright.errors import BadExample, BadFormula, BadPaper
from lessonwright.points import all_points
from makers import Steps, all_tables

EITHER = {(0, 0): False, (0, 1): True, (1, 0): True, (1, 1): False}


def all_trees(places):
    """All trees over places, none of them twice on a way."""
    yield False
    yield True
    for place in places:
        below = list(all_trees([other for other in places if other != place]))
        for low, high in product(below, repeat=2):
            yield place, low, high


def told_by(tree, point):
    while isinstance(tree, tuple):
        tree = tree[1 + point[tree[0]]]
    return tree


def least_costs(many):
    """By each row of answers for all points the least size and the least depth of a tree that tells it."""
    points = list(product((0, 1), repeat=many))
    found = {}
    for tree in all_trees(range(many)):
        row = tuple(told_by(tree, point) for point in points)
        here = (size(tree), depth(tree))
        found[row] = tuple(map(min, found.get(row, here), here))
    return found


def least_for(table, many, costs):
    """The least size and depth of all trees that tell a table right."""
    points = list(product((0, 1), repeat=many))
    ways = product(*[(table[point],) if point in table else (False, True) for point in points])
    found = [costs[way] for way in ways]
    return min(row[0] for row in found), min(row[1] for row in found)


def some_tables(count, many, seed=1):
    steps = Steps(seed)
    for _ in range(count):
        told = {point: (None, False, True)[steps.below(3)] for point in product((0, 1), repeat=many)}
        yield {point: take for point, take in told.items() if take is not None}


class Trees(unittest.TestCase):
    def test_check_tree(self):
        self.assertEqual(check_tree([0, [1, False, True], True], 2), (0, (1, False, True), True))
        self.assertIs(check_tree(False, 0), False)
        self.assertEqual(check_tree((0, (1, False, True), (1, True, False)), 2),
                         (0, (1, False, True), (1, True, False)))

    def test_refuses_what_is_no_tree(self):
        for tree in ((2, False, True), (-1, False, True), (0, True), (0, True, False, True), (), (0, (0, True, False), True),
                     (0, True, (1, True, (0, False, True))), (1, (5, True, False), False)):
            with self.subTest(tree=tree), self.assertRaises(BadFormula):
                check_tree(tree, 2)

    def test_checked_below_used_places(self):
        self.assertEqual(checked([1, True, False], 3, (0, 2)), (1, True, False))
        for used in ((1,), [0, 1]):
            with self.assertRaises(BadFormula):
                checked((1, True, False), 3, used)

    def test_has(self):
        tree = (1, (0, False, True), True)
        self.assertEqual([has(tree, point) for point in all_points(2)], [False, True, True, True])
        self.assertIs(has(tree, [0, 0]), False)
        self.assertIs(has(True, ()), True)

    def test_size_and_depth(self):
        tree = (1, (0, False, (2, True, False)), (2, True, False))
        self.assertEqual((size(tree), depth(tree)), (4, 3))
        self.assertEqual((size(True), depth(False)), (0, 0))

    def test_agrees(self):
        self.assertIs(tree_agrees((0, False, True), [((0, 1), False), ([1, 1], True)]), True)
        self.assertIs(tree_agrees((0, False, True), [((0, 1), True)]), False)
        self.assertIs(tree_agrees(True, []), True)


class Costs(unittest.TestCase):
    def test_table_key(self):
        self.assertEqual(table_key({(1, 0): True, (0, 1): False}), (((0, 1), False), ((1, 0), True)))
        self.assertEqual(table_key({}), ())

    def test_halves(self):
        low, high = halves(EITHER, 1)
        self.assertEqual((low, high), ({(0, 0): False, (1, 0): True}, {(0, 1): True, (1, 1): False}))
        self.assertIsInstance(halves(EITHER, 0), tuple)
        self.assertEqual(halves({}, 0), ({}, {}))

    def test_tree_costs(self):
        found = tree_costs(EITHER.items(), 2, False)
        self.assertIsInstance(found, dict)
        self.assertEqual(found, {
            table_key(EITHER): 3,
            (((0, 0), False), ((0, 1), True)): 1, (((1, 0), True), ((1, 1), False)): 1,
            (((0, 0), False), ((1, 0), True)): 1, (((0, 1), True), ((1, 1), False)): 1,
            (((0, 0), False),): 0, (((0, 1), True),): 0, (((1, 0), True),): 0, (((1, 1), False),): 0})
        self.assertEqual(tree_costs(list(EITHER.items()), 2, True)[table_key(EITHER)], 2)

    def test_alike_lots_are_asked_no_more(self):
        examples = [([0, 1], True), ((1, 1), True)]
        self.assertEqual(tree_costs(examples, 2, False), {(((0, 1), True), ((1, 1), True)): 0})
        self.assertEqual(tree_costs([], 2, False), {(): 0})

    def test_only_places_with_points_on_both_sides_are_asked(self):
        self.assertEqual(tree_costs([((0, 1, 0), True), ((1, 1, 0), False)], 3, False), {
            (((0, 1, 0), True), ((1, 1, 0), False)): 1, (((0, 1, 0), True),): 0, (((1, 1, 0), False),): 0})

    def test_cost_of_notes_all_parts(self):
        found = {}
        self.assertEqual(cost_of(EITHER, 2, False, found), 3)
        self.assertEqual(found, tree_costs(EITHER.items(), 2, False))
        # What is found already is taken as it is.
        self.assertEqual(cost_of({(0,): True, (1,): False}, 1, False, {(((0,), True), ((1,), False)): 7}), 7)

    def test_rarer(self):
        self.assertEqual(rarer({(0, 0): True, (0, 1): False, (1, 0): True}), 1)
        self.assertEqual(rarer(EITHER), 2)
        self.assertEqual((rarer({}), rarer({(0,): True})), (0, 0))

    def test_costs_are_taken(self):
        for table in list(all_tables(2)) + list(some_tables(30, 3)):
            many = 3 if table and len(list(table)[0]) == 3 else 2
            for flat in (False, True):
                found = tree_costs(list(table.items()), many, flat)
                self.assertEqual(check_costs(list(table.items()), many, flat, found), found[table_key(table)])

    def test_refuses_a_lot_made_dearer_or_left_out(self):
        table = {point: sum(point) in (1, 2) and point != (0, 1, 1) for point in all_points(3)}
        for flat in (False, True):
            found = tree_costs(list(table.items()), 3, flat)
            for lot in found:
                dearer = {**found, lot: found[lot] + 1}
                fewer = {other: cost for other, cost in found.items() if other != lot}
                for paper in (dearer, fewer):
                    with self.assertRaises(BadPaper):
                        check_costs(list(table.items()), 3, flat, paper)

    def test_refuses_nought_for_unlike_answers_and_more_for_alike_ones(self):
        examples = [((0,), True), ((1,), False)]
        whole, low, high = table_key(dict(examples)), (((0,), True),), (((1,), False),)
        self.assertEqual(check_costs(examples, 1, False, {whole: 1, low: 0, high: 0}), 1)
        for found in ({whole: 0, low: 0, high: 0}, {whole: 1, low: 1, high: 0}, {whole: 2, low: 0, high: 0}, {},
                      {whole: 1, low: 0}, {low: 0, high: 0}):
            with self.assertRaises(BadPaper):
                check_costs(examples, 1, False, found)

    def test_costs_of_the_other_kind_are_too_dear(self):
        examples = list(EITHER.items())
        self.assertEqual(check_costs(examples, 2, True, tree_costs(examples, 2, True)), 2)
        with self.assertRaises(BadPaper):
            check_costs(examples, 2, True, tree_costs(examples, 2, False))

    def test_no_tree_that_agrees_is_cheaper_than_costs_that_are_taken(self):
        costs = least_costs(2)
        for table in all_tables(2):
            least = least_for(table, 2, costs)
            for flat in (False, True):
                found = tree_costs(list(table.items()), 2, flat)
                for lot in found:
                    for cost in range(4):
                        paper = {**found, lot: cost}
                        try:
                            told = check_costs(list(table.items()), 2, flat, paper)
                        except BadPaper:
                            continue
                        self.assertLessEqual(told, least[flat])

    def test_refuse_examples_that_cannot_be(self):
        for examples in ([((0, 1), True), ([0, 1], False)], [((0,), True)], [((0, 3), True)]):
            for asked in (lambda: tree_costs(examples, 2, False), lambda: best(examples, 2),
                          lambda: greedy(examples, 2), lambda: check_costs(examples, 2, False, {(): 0})):
                with self.assertRaises(BadExample):
                    asked()


class Best(unittest.TestCase):
    def test_smallest_and_flattest(self):
        self.assertEqual(best(EITHER.items(), 2), (0, (1, False, True), (1, True, False)))
        self.assertEqual(best([([0, 1], False), ((1, 1), True), ((0, 1), False)], 2), (0, False, True))

    def test_nothing_told_and_one_answer(self):
        for flat in (False, True):
            self.assertIs(best([], 3, flat), False)
            self.assertIs(best([((0, 1), True), ((1, 1), True)], 2, flat), True)
            self.assertIs(best([((), False)], 0, flat), False)

    def test_first_places_first(self):
        self.assertEqual(best([((0, 0), False), ((1, 1), True)], 2), (0, False, True))
        self.assertEqual(best([((0, 0, 0), False), ((0, 1, 1), True)], 3), (1, False, True))
        table = {point: point[1] == point[2] for point in all_points(3)}
        self.assertEqual(best(table.items(), 3), (1, (2, True, False), (2, False, True)))

    def test_the_smallest_may_be_deeper(self):
        examples = [((0, 0, 0, 0), False), ((0, 0, 0, 1), True), ((0, 1, 1, 0), True), ((1, 0, 0, 0), True),
                    ((1, 1, 0, 0), False), ((1, 1, 0, 1), True), ((1, 1, 1, 1), True)]
        small, flat = best(examples, 4), best(examples, 4, True)
        self.assertEqual(small, (2, (3, (0, False, (1, True, False)), True), True))
        self.assertEqual(flat, (0, (1, (3, False, True), True), (1, True, (3, False, True))))
        self.assertEqual((size(small), depth(small), size(flat), depth(flat)), (4, 4, 5, 3))

    def test_against_all_trees_of_two_places(self):
        trees = list(all_trees(range(2)))
        self.assertEqual(len(trees), 74)
        for table in all_tables(2):
            examples = list(table.items())
            good = [tree for tree in trees if all(told_by(tree, point) == take for point, take in examples)]
            self.assertEqual(size(best(examples, 2)), min(map(size, good)))
            self.assertEqual(depth(best(examples, 2, flat=True)), min(map(depth, good)))
            for flat in (False, True):
                self.assertTrue(tree_agrees(best(examples, 2, flat), examples))

    def test_against_all_trees_of_three_places(self):
        costs = least_costs(3)
        self.assertEqual(len(costs), 256)
        tables = list(some_tables(150, 3, seed=8))
        tables += [dict(zip(all_points(3), told)) for told in product((False, True), repeat=8)]
        for table in tables:
            examples = list(table.items())
            small, flat = best(examples, 3), best(examples, 3, True)
            self.assertEqual((size(small), depth(flat)), least_for(table, 3, costs))
            for tree in (small, flat, greedy(examples, 3)):
                self.assertEqual(check_tree(tree, 3), tree)
                self.assertTrue(tree_agrees(tree, examples))
            for kind, cost in ((False, size(small)), (True, depth(flat))):
                self.assertEqual(check_costs(examples, 3, kind, tree_costs(examples, 3, kind)), cost)

    def test_first_of_alike_places_at_each_step(self):
        for table in some_tables(100, 3, seed=4):
            for flat in (False, True):
                found = tree_costs(list(table.items()), 3, flat)
                self.check_first(best(list(table.items()), 3, flat), table, flat, found)

    def check_first(self, tree, table, flat, found):
        if isinstance(tree, bool):
            self.assertEqual(found[table_key(table)], 0)
            self.assertIs(tree, any(table.values()))
            return
        may_be = []
        for place in range(3):
            low, high = halves(table, place)
            if low and high:
                costs = (found[table_key(low)], found[table_key(high)])
                if 1 + (max(costs) if flat else sum(costs)) == found[table_key(table)]:
                    may_be.append(place)
        self.assertEqual(tree[0], may_be[0])
        for side, part in zip(tree[1:], halves(table, tree[0])):
            self.check_first(side, part, flat, found)

    def test_grown_by_the_costs_found(self):
        found = tree_costs(EITHER.items(), 2, False)
        self.assertEqual(grown(EITHER, 2, False, found), (0, (1, False, True), (1, True, False)))
        # Where the sides of the first place are told dearer, the second one is asked.
        dear = {**found, (((0, 0), False), ((0, 1), True)): 5}
        self.assertEqual(grown(EITHER, 2, False, dear), (1, (0, False, True), (0, True, False)))


class Greedy(unittest.TestCase):
    def test_fewest_rarer_answers(self):
        table = {(0, 0, 0): False, (0, 1, 1): True, (1, 0, 1): False, (1, 1, 0): True}
        self.assertEqual(greedy(table.items(), 3), (1, False, True))
        self.assertEqual(grown_greedy(table, 3), (1, False, True))

    def test_both_sides_count(self):
        for seen in list(some_tables(80, 3, seed=13)):
            tree = greedy(seen.items(), 3)
            if isinstance(tree, tuple):
                counts = {place: sum(map(rarer, halves(seen, place))) for place in range(3) if all(halves(seen, place))}
                self.assertEqual(tree[0], min(counts, key=counts.get))

    def test_first_of_alike_places(self):
        self.assertEqual(greedy(EITHER.items(), 2), (0, (1, False, True), (1, True, False)))
        self.assertEqual(greedy([((0, 0), False), ((1, 1), True)], 2), (0, False, True))

    def test_places_with_points_on_one_side_alone_are_not_asked(self):
        examples = [((0, *point), take) for point, take in EITHER.items()]
        self.assertEqual(greedy(examples, 3), (1, (2, False, True), (2, True, False)))

    def test_nothing_told_and_one_answer(self):
        self.assertIs(greedy([], 2), False)
        self.assertIs(greedy([((0, 1), True)], 2), True)
        self.assertIs(grown_greedy({}, 2), False)

    def test_may_be_larger_than_the_smallest(self):
        larger = 0
        for told in product((False, True), repeat=8):
            examples = list(zip(all_points(3), told))
            self.assertGreaterEqual(size(greedy(examples, 3)), size(best(examples, 3)))
            larger += size(greedy(examples, 3)) > size(best(examples, 3))
        self.assertGreater(larger, 0)


if __name__ == "__main__":
    unittest.main()
