import unittest
from itertools import combinations, product
from math import comb

from lessonwright.errors import BadPaper, BadSize
from lessonwright.shatters import (
    all_lots, check_lot, choose, dimension, growth, is_down, is_shattered, largest, most_rules, power_of_two, pressed,
    ways_on, witnesses_of)
from makers import Steps, is_tuples

F, T = False, True
# Rules that say yes from some question on.
STEPS = [(F, F, F), (F, F, T), (F, T, T), (T, T, T)]
BAD = ([], (), [()], [(T,), (T, F)])


def all_classes(many):
    """All lots of rules of so many questions, one rule at least."""
    rows = list(product((F, T), repeat=many))
    for picks in product((0, 1), repeat=len(rows)):
        if any(picks):
            yield [row for row, pick in zip(rows, picks) if pick]


def some_classes(count, many, seed=1):
    steps = Steps(seed)
    rows = list(product((F, T), repeat=many))
    for _ in range(count):
        yield [rows[steps.below(len(rows))] for _ in range(1 + steps.below(2 * len(rows)))]


def in_all_ways(rules, lot):
    """Whether rules answer a lot in all ways, told anew."""
    given = [tuple(rule[place] for place in lot) for rule in rules]
    return all(way in given for way in product((F, T), repeat=len(lot)))


class Lots(unittest.TestCase):
    def test_smaller_first_then_in_order(self):
        self.assertEqual(all_lots(0), ((),))
        self.assertEqual(all_lots(1), ((), (0,)))
        self.assertEqual(all_lots(3), ((), (0,), (1,), (2,), (0, 1), (0, 2), (1, 2), (0, 1, 2)))
        for many in range(8):
            self.assertEqual(list(all_lots(many)), [
                lot for size in range(many + 1) for lot in combinations(range(many), size)])

    def test_up_to_ten(self):
        self.assertEqual(len(all_lots(10)), 1024)
        self.assertTrue(is_tuples(all_lots(10)))
        for many in (11, 12, 40):
            with self.assertRaises(BadSize):
                all_lots(many)

    def test_ways_on(self):
        self.assertEqual(ways_on(STEPS, (0, 2)), ((F, F), (F, T), (T, T)))
        self.assertEqual(ways_on(STEPS, [2, 0]), ((F, F), (T, F), (T, T)))
        self.assertEqual(ways_on([[T, F], [T, F], [F, F]], (0,)), ((F,), (T,)))
        self.assertEqual(ways_on(STEPS, ()), ((),))
        self.assertEqual(ways_on([], ()), ())
        self.assertTrue(is_tuples(ways_on([[T, F]], [0, 1])))

    def test_power_of_two(self):
        self.assertEqual([power_of_two(count) for count in (0, 1, 2, 10, 70)], [1, 2, 4, 1024, 2 ** 70])

    def test_is_shattered(self):
        self.assertIs(is_shattered(STEPS, ()), True)
        self.assertIs(is_shattered(STEPS, (1,)), True)
        self.assertIs(is_shattered(STEPS, (0, 1)), False)
        self.assertIs(is_shattered([], ()), False)
        self.assertIs(is_shattered([(F, F), (F, T), (T, F), (T, T)], [0, 1]), True)
        # A place twice can never be answered in all ways.
        self.assertIs(is_shattered([(F, F), (F, T), (T, F), (T, T)], (0, 0)), False)


class Largest(unittest.TestCase):
    def test_first_of_the_largest(self):
        self.assertEqual(largest(STEPS), (0,))
        self.assertEqual(largest([(F, T, T), (F, F, T)]), (1,))
        self.assertEqual(largest([(F, T), (F, T)]), ())
        self.assertEqual(largest([(T,)]), ())
        rules = [(a, T, b, c) for a in (F, T) for b in (F, T) for c in (F, T) if not (a and b and c)]
        self.assertEqual(largest(rules), (0, 2))
        self.assertEqual(largest([[F, F], [T, T], [T, F], [F, T]]), (0, 1))

    def test_against_all_lots(self):
        for rules in all_classes(3):
            good = [lot for size in range(4) for lot in combinations(range(3), size) if in_all_ways(rules, lot)]
            size = max(len(lot) for lot in good)
            first = [lot for lot in good if len(lot) == size][0]
            self.assertEqual((largest(rules), dimension(rules)), (first, size))

    def test_refused(self):
        for asked in (largest, dimension, pressed, is_down, growth, lambda rules: check_lot(rules, (), ()),
                      lambda rules: witnesses_of(rules, ())):
            for rules in BAD:
                with self.subTest(rules=rules), self.assertRaises(BadSize):
                    asked(rules)

    def test_more_than_ten_questions(self):
        wide = [(F,) * 11, (T,) * 11]
        for asked in (largest, dimension, growth):
            with self.assertRaises(BadSize):
                asked(wide)
        self.assertEqual(largest([(F,) * 10, (T,) * 10]), (0,))
        # What goes over no lots is not bound to ten questions.
        self.assertEqual(pressed(wide), ((F,) * 11, (F,) * 10 + (T,)))
        self.assertEqual(check_lot(wide, (10,), wide), 1)
        self.assertEqual(witnesses_of(wide, (10,)), tuple(wide))


class Most(unittest.TestCase):
    def test_choose(self):
        for many in range(9):
            self.assertEqual([choose(many, few) for few in range(11)], [comb(many, few) for few in range(11)])
        self.assertEqual((choose(3, -1), choose(0, 0), choose(-1, 0)), (0, 1, 0))
        self.assertEqual(choose(60, 30), comb(60, 30))

    def test_most_rules(self):
        self.assertEqual([most_rules(4, size) for size in range(-1, 7)], [0, 1, 5, 11, 15, 16, 16, 16])
        self.assertEqual(most_rules(0, 0), 1)

    def test_never_more_rules_than_told(self):
        for rules in all_classes(3):
            self.assertLessEqual(len(rules), most_rules(3, dimension(rules)))
        for rules in some_classes(60, 5, seed=8):
            self.assertLessEqual(len(set(rules)), most_rules(5, dimension(rules)))
        # As many as told there can be: all rules with two Trues at most.
        few = [rule for rule in product((F, T), repeat=5) if sum(rule) <= 2]
        self.assertEqual((dimension(few), len(few)), (2, most_rules(5, 2)))

    def test_growth(self):
        self.assertEqual(growth(STEPS), (1, 2, 3, 4))
        self.assertEqual(growth([(T, F)]), (1, 1, 1))
        self.assertEqual(growth([(T, F), (T, F), (F, F)]), (1, 2, 2))
        self.assertEqual(growth(list(product((F, T), repeat=3))), (1, 2, 4, 8))
        self.assertTrue(is_tuples(growth([[T, F]])))

    def test_growth_against_all_lots(self):
        for rules in all_classes(3):
            told = tuple(
                max(len({tuple(rule[place] for place in lot) for rule in rules})
                    for lot in combinations(range(3), size))
                for size in range(4))
            self.assertEqual(growth(rules), told)
            for size, most in enumerate(told):
                self.assertLessEqual(most, most_rules(size, dimension(rules)))
                self.assertEqual(most == 2 ** size, size <= dimension(rules))


class Witnesses(unittest.TestCase):
    def test_check_lot(self):
        every = list(product((F, T), repeat=2))
        self.assertEqual(check_lot(every, (0, 1), every), 2)
        self.assertEqual(check_lot(every, [1], [[T, F], [T, T]]), 1)
        self.assertEqual(check_lot(every, (1, 0), every + every), 2)
        self.assertEqual(check_lot(STEPS, (), [STEPS[2]]), 0)

    def test_refused(self):
        every = list(product((F, T), repeat=2))
        for rules, lot, witnesses in (
                (STEPS, (0, 1), STEPS),                     # a way that is not there
                (STEPS, (1,), [(F, F, F), (T, T, F)]),      # a witness that is not among the rules
                (STEPS, (1,), [(F, F, F), (F, T, T), (T, F)]),
                (STEPS, (1,), [(F, F, F)]),                 # too few
                (STEPS, (), []),                            # nobody answers the bare lot
                (STEPS, (3,), STEPS), (STEPS, (-1,), STEPS), (STEPS, (1, 3), STEPS),
                (every, (0, 0), every), (every, (0, 1, 0), every)):
            with self.subTest(lot=lot, witnesses=witnesses), self.assertRaises(BadPaper):
                check_lot(rules, lot, witnesses)

    def test_witnesses_of(self):
        self.assertEqual(witnesses_of(STEPS, (1,)), ((F, F, F), (F, T, T)))
        self.assertEqual(witnesses_of(list(reversed(STEPS)), [2, 0]), ((F, F, F), (F, F, T), (T, T, T)))
        self.assertEqual(witnesses_of(STEPS, ()), ((F, F, F),))
        self.assertTrue(is_tuples(witnesses_of([[T, F], [F, F]], [0])))

    def test_witnesses_of_all(self):
        for rules in all_classes(3):
            for lot in all_lots(3):
                found = witnesses_of(rules, lot)
                self.assertEqual(tuple(tuple(rule[place] for place in lot) for rule in found), ways_on(rules, lot))
                for rule in found:
                    way = [rule[place] for place in lot]
                    self.assertEqual(rule, min(one for one in rules if [one[place] for place in lot] == way))
            lot = largest(rules)
            self.assertEqual(check_lot(rules, lot, witnesses_of(rules, lot)), dimension(rules))


class Pressed(unittest.TestCase):
    def test_pressed(self):
        self.assertEqual(pressed([(T, T)]), ((F, F),))
        self.assertEqual(pressed(STEPS), ((F, F, F), (F, F, T), (F, T, F), (T, F, F)))
        self.assertEqual(pressed([(T, F), (F, T)]), ((F, F), (F, T)))
        self.assertEqual(pressed([[T, T], [T, F], [F, T]]), ((F, F), (F, T), (T, F)))

    def test_rules_told_twice(self):
        self.assertEqual(pressed([(T, T), (T, T), (T, F)]), ((F, F), (F, T)))
        self.assertIs(is_down([(F, F), (F, F), (T, F)]), True)

    def test_pressed_down_already(self):
        down = [(T, F), (F, T), (F, F)]
        self.assertEqual(pressed(down), ((F, F), (F, T), (T, F)))
        for rules in all_classes(3):
            if is_down(rules):
                self.assertEqual(pressed(rules), tuple(sorted(rules)))

    def test_is_down(self):
        self.assertIs(is_down([(F, F)]), True)
        self.assertIs(is_down([(F, T)]), False)
        self.assertIs(is_down([(F, F), (T, T)]), False)
        self.assertIs(is_down([[F, F], [T, F], [F, T], [T, T]]), True)
        for rules in all_classes(3):
            told = all(other in rules for rule in rules for other in product((F, T), repeat=3)
                       if all(mine <= theirs for mine, theirs in zip(other, rule)))
            self.assertEqual(is_down(rules), told)

    def press(self, rules):
        """Place by place, till none goes, one rule at a time."""
        left = sorted(set(rules))
        moved = True
        while moved:
            moved = False
            for place in range(len(left[0])):
                for rule in list(left):
                    low = rule[:place] + (F,) + rule[place + 1:]
                    if low not in left:
                        left[left.index(rule)] = low
                        moved = True
        return tuple(sorted(left))

    def check(self, rules, many):
        found = pressed(rules)
        self.assertTrue(is_tuples(found))
        self.assertEqual(found, self.press(rules))
        self.assertEqual(len(set(found)), len(set(rules)))
        self.assertIs(is_down(found), True)
        # No lot more is answered in all ways, so no rule has more Trues than the size of the largest.
        for lot in all_lots(many):
            self.assertTrue(is_shattered(rules, lot) or not is_shattered(found, lot))
        self.assertLessEqual(max(sum(rule) for rule in found), dimension(rules))

    def test_all_and_some_classes(self):
        for many in (1, 2, 3):
            for rules in all_classes(many):
                self.check(rules, many)
        for rules in some_classes(40, 5, seed=3):
            self.check(rules, 5)

    def test_what_is_handed_in_is_left(self):
        rules = [[T, T], [T, F]]
        for asked in (pressed, is_down, growth, largest):
            asked(rules)
        self.assertEqual(rules, [[T, T], [T, F]])


if __name__ == "__main__":
    unittest.main()
