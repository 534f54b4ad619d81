import unittest
from fractions import Fraction
from itertools import combinations, product

from lessonwright.errors import BadPaper, BadSize
from lessonwright.groups import check_groups, gap, group_costs, grouped, part_less, spread, tied, ties
from lessonwright.lines import part
from makers import Steps, is_tuples


def some_numbers(count, most, wide, seed=1):
    steps = Steps(seed)
    for _ in range(count):
        yield [steps.below(wide) - 3 for _ in range(steps.below(most + 1))]


def some_points(count, most, seed=1):
    """Some rows of points, some of them alike."""
    steps = Steps(seed)
    for _ in range(count):
        yield [(steps.below(4), steps.below(4)) for _ in range(1 + steps.below(most))]


def cuts_of(row, many):
    """All ways to cut a row into so many parts, none of them bare."""
    if many == 0:
        return [()] if row == () else []
    return [
        tuple(row[start:end] for start, end in zip((0,) + cuts, cuts + (len(row),)))
        for cuts in combinations(range(1, len(row)), many - 1)] if row != () else []


def spread_anew(numbers):
    if not numbers:
        return Fraction(0)
    at = Fraction(sum(numbers), len(numbers))
    return sum((number - at) ** 2 for number in numbers)


def lots_of(places, many):
    """All ways to put places into so many groups, none of them bare."""
    if not places:
        return [[]] if many == 0 else []
    first, rest = places[0], places[1:]
    found = [[[first]] + lots for lots in lots_of(rest, many - 1)] if many > 0 else []
    for lots in lots_of(rest, many):
        for at in range(len(lots)):
            found.append(lots[:at] + [[first] + lots[at]] + lots[at + 1:])
    return found


class Spread(unittest.TestCase):
    def test_spread(self):
        self.assertEqual([spread([]), spread([7]), spread([1, 3]), spread((1, 2, 4)), spread([2, 2])],
                         [(0, 1), (0, 1), (2, 1), (14, 3), (0, 1)])
        self.assertTrue(is_tuples(spread([1, 2])) and is_tuples(spread([])))
        for numbers in some_numbers(40, 7, 12):
            told = spread_anew(numbers)
            self.assertEqual(spread(numbers), (told.numerator, told.denominator))

    def test_part_less(self):
        self.assertIs(part_less((1, 3), (1, 2)), True)
        self.assertIs(part_less((1, 2), (1, 3)), False)
        self.assertIs(part_less((1, 2), (1, 2)), False)
        self.assertIs(part_less((-3, 2), (-1, 1)), True)
        self.assertIs(part_less([0, 1], [1, 9]), True)


class Costs(unittest.TestCase):
    def test_group_costs(self):
        self.assertEqual(group_costs([], 0), {(0, 0): (0, 1)})
        self.assertEqual(group_costs([], 3), {(0, 0): (0, 1)})
        self.assertEqual(group_costs([5, 1], 0), {(0, 0): (0, 1)})
        self.assertEqual(group_costs([4, 0, 1], 2), {
            (0, 0): (0, 1), (1, 1): (0, 1), (2, 1): (1, 2), (3, 1): (26, 3), (2, 2): (0, 1), (3, 2): (1, 2)})
        self.assertIsInstance(group_costs((4, 0, 1), 2), dict)

    def test_more_groups_than_numbers(self):
        self.assertEqual(group_costs([2, 1], 4), {(0, 0): (0, 1), (1, 1): (0, 1), (2, 1): (1, 2), (2, 2): (0, 1)})
        for numbers, many in (([2, 1], 3), ([], 1), ([2, 1], 0), ([4], 0), ([4], -1)):
            with self.assertRaises(BadSize):
                grouped(numbers, many)

    def test_against_all_cuts(self):
        for numbers in some_numbers(25, 6, 9, seed=5):
            row = tuple(sorted(numbers))
            told = {(0, 0): (0, 1)}
            for count in range(1, len(row) + 1):
                for many in range(1, min(count, 4) + 1):
                    least = min(sum(spread_anew(lot) for lot in lots) for lots in cuts_of(row[:count], many))
                    told[count, many] = (least.numerator, least.denominator)
            self.assertEqual(group_costs(numbers, 4), told)


class Grouped(unittest.TestCase):
    def test_grouped(self):
        self.assertEqual(grouped([9, 1, 2, 10, 5], 3), ((1, 2), (5,), (9, 10)))
        self.assertEqual(grouped((3, 1, 2), 1), ((1, 2, 3),))
        self.assertEqual(grouped([3, 1, 2], 3), ((1,), (2,), (3,)))
        self.assertEqual(grouped([], 0), ())
        self.assertTrue(is_tuples(grouped([3, 1, 2], 2)))

    def test_last_ones_as_long_as_can_be(self):
        self.assertEqual(grouped([1, 2, 3], 2), ((1,), (2, 3)))
        self.assertEqual(grouped([4, 4, 4, 4], 2), ((4,), (4, 4, 4)))
        self.assertEqual(grouped([1, 2, 3, 4, 5], 3), ((1,), (2, 3), (4, 5)))
        self.assertEqual(grouped([0, 0, 0, 7, 7], 4), ((0,), (0,), (0,), (7, 7)))

    def test_against_all_cuts(self):
        for numbers in some_numbers(40, 7, 7, seed=11):
            row = tuple(sorted(numbers))
            for many in range(1, len(row) + 1):
                ways = cuts_of(row, many)
                least = min(sum(spread_anew(lot) for lot in lots) for lots in ways)
                good = [lots for lots in ways if sum(spread_anew(lot) for lot in lots) == least]
                self.assertEqual(grouped(numbers, many), max(good, key=lambda lots: [len(lot) for lot in lots[::-1]]))

    def test_what_is_handed_in_is_left(self):
        numbers = [3, 1, 2]
        grouped(numbers, 2), group_costs(numbers, 2), spread(numbers)
        self.assertEqual(numbers, [3, 1, 2])


class Papers(unittest.TestCase):
    def test_check_groups(self):
        for numbers in some_numbers(25, 6, 9, seed=6):
            for many in range(1, len(numbers) + 1):
                costs = group_costs(numbers, many)
                lots = grouped(numbers, many)
                told = sum(spread_anew(lot) for lot in lots)
                self.assertEqual(check_groups(numbers, lots, costs), (told.numerator, told.denominator))
        self.assertEqual(check_groups([2, 1], [[1], [2]], group_costs([1, 2], 2)), (0, 1))
        self.assertTrue(is_tuples(check_groups([2, 1], [[1, 2]], group_costs([1, 2], 2))))

    def test_no_groups_of_no_numbers(self):
        self.assertEqual(check_groups([], (), {(0, 0): (0, 1)}), (0, 1))
        self.assertEqual(check_groups((), [], group_costs([], 2)), (0, 1))
        for numbers, parts, found in (([], (), {}), ([], (), {(0, 0): (1, 1)}), ([], ((),), {(0, 0): (0, 1)}),
                                      ([1], (), group_costs([1], 1))):
            with self.assertRaises(BadPaper):
                check_groups(numbers, parts, found)

    def test_groups_of_others(self):
        numbers = [1, 2, 5, 6]
        costs = group_costs(numbers, 2)
        self.assertEqual(check_groups(numbers, ((1, 2), (5, 6)), costs), (1, 1))
        for parts in (((1, 2), (5, 7)), ((1, 2), (5,)), ((1, 2), (5, 6, 6)), ((5, 6), (1, 2)), ((2, 1), (5, 6)),
                      ((1, 2, 5, 6), ()), ((), (1, 2, 5, 6)), ([1, 2, 5, 6], []), (), ((),),
                      # The right numbers, but not the least.
                      ((1,), (2, 5, 6)), ((1, 2, 5), (6,)),
                      # More groups than the table has.
                      ((1, 2), (5,), (6,))):
            with self.subTest(parts=parts), self.assertRaises(BadPaper):
                check_groups(numbers, parts, costs)
        for others in ([1, 2, 5], [1, 2, 5, 6, 6], [1, 2, 5, 7], []):
            with self.assertRaises(BadPaper):
                check_groups(others, ((1, 2), (5, 6)), costs)

    def test_a_cost_changed_or_left_out(self):
        numbers = [1, 2, 5, 6, 9]
        costs = group_costs(numbers, 3)
        lots = grouped(numbers, 3)
        for lot, (top, low) in costs.items():
            for other in (part(top + low, low), part(2 * top + 1, 2 * low), (99, 1)):
                with self.subTest(lot=lot, other=other), self.assertRaises(BadPaper):
                    check_groups(numbers, lots, {**costs, lot: other})
            with self.subTest(lot=lot), self.assertRaises(BadPaper):
                check_groups(numbers, lots, {known: costs[known] for known in costs if known != lot})
        # One that is told less than it is shows nothing of these groups.
        for lower in ((0, 1), (1, 2), (-1, 1)):
            with self.assertRaises(BadPaper):
                check_groups(numbers, lots, {**costs, (5, 3): lower})

    def test_no_changed_table_shows_others_to_be_the_least(self):
        steps = Steps(23)
        taken = 0
        for numbers in some_numbers(60, 5, 6, seed=9):
            if len(numbers) < 2:
                continue
            costs = group_costs(numbers, 2)
            row = tuple(sorted(numbers))
            least = Fraction(*costs[len(row), 2])
            for lots in cuts_of(row, 2):
                lot = list(costs)[steps.below(len(costs))]
                for changed in (costs, {**costs, lot: part(steps.below(9), 1 + steps.below(2))}):
                    try:
                        told = check_groups(numbers, lots, changed)
                    except BadPaper:
                        continue
                    taken += 1
                    self.assertEqual(Fraction(*told), least)
                    self.assertEqual(sum(spread_anew(lot) for lot in lots), least)
        self.assertGreater(taken, 40)


class Ties(unittest.TestCase):
    def test_ties(self):
        points = [(0, 0), (5, 0), (1, 0), (5, 1)]
        self.assertEqual(ties(points), ((1, 0, 2), (1, 1, 3), (16, 1, 2)))
        self.assertEqual((ties([]), ties([(3,)])), ((), ()))
        self.assertTrue(is_tuples(ties([[0, 0], [1, 1], [2, 0]])))

    def test_those_alike_by_their_places(self):
        square = [(0, 0), (0, 1), (1, 1), (1, 0)]
        self.assertEqual(ties(square), ((1, 0, 1), (1, 0, 3), (1, 1, 2)))
        self.assertEqual(ties([(1,), (1,), (1,)]), ((0, 0, 1), (0, 0, 2)))

    def test_against_all_links(self):
        for points in some_points(25, 5, seed=3):
            found = ties(points)
            self.assertEqual(len(found), len(points) - 1)
            self.assertEqual(list(found), sorted(found))
            links = [(sum((a - b) ** 2 for a, b in zip(points[one], points[other])), one, other)
                     for one, other in combinations(range(len(points)), 2)]
            least = None
            for some in combinations(sorted(links), len(points) - 1):
                reach = {0}
                for _ in points:
                    reach |= {place for _, one, other in some for place in (one, other) if {one, other} & reach}
                if len(reach) == len(points):
                    least = min(some if least is None else least, some)
            # The first of all by squares and then by places is the least in all, too.
            self.assertEqual(found, least)

    def test_tied(self):
        points = [(0, 0), (5, 0), (1, 0), (5, 1)]
        self.assertEqual([tied(points, many) for many in (1, 2, 3, 4)], [
            ((0, 1, 2, 3),), ((0, 2), (1, 3)), ((0, 2), (1,), (3,)), ((0,), (1,), (2,), (3,))])
        self.assertEqual(tied([(7,)], 1), ((0,),))
        # By their first places, also where a group of higher ones is tied first.
        self.assertEqual(tied([(9,), (0,), (1,), (4,)], 2), ((0,), (1, 2, 3)))
        self.assertTrue(is_tuples(tied([[0], [1]], 1)))

    def test_points_alike(self):
        points = [(2, 2), (0, 0), (2, 2), (0, 0)]
        self.assertEqual(tied(points, 2), ((0, 2), (1, 3)))
        self.assertEqual(tied(points, 3), ((0, 2), (1,), (3,)))
        self.assertEqual(gap(points, tied(points, 3)), 0)

    def test_tied_refused(self):
        for points, many in (([], 0), ([], 1), ([(0,), (1,)], 0), ([(0,), (1,)], 3), ([(0,)], -1)):
            with self.assertRaises(BadSize):
                tied(points, many)

    def test_gap(self):
        points = [(0, 0), (5, 0), (1, 0), (5, 1)]
        self.assertEqual(gap(points, ((0, 2), (1, 3))), 16)
        self.assertEqual(gap(points, [[0, 1], [2, 3]]), 1)
        self.assertIsNone(gap(points, ((0, 1, 2, 3),)))
        self.assertIsNone(gap([], ()))

    def test_no_groups_of_as_many_are_further(self):
        for points in some_points(30, 6, seed=12):
            for many in range(2, len(points) + 1):
                told = gap(points, tied(points, many))
                self.assertEqual(told, max(gap(points, lots) for lots in lots_of(list(range(len(points))), many)))


if __name__ == "__main__":
    unittest.main()
