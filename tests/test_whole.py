"""What holds of the whole program: the kinds of what is told, papers that are taken for nothing else, told bounds."""

import unittest
from itertools import combinations, product

from lessonwright import (
    ands, boosts, boughs, chances, desks, experts, groups, halves, horns, ladders, lines, machines, nears, ors, parted,
    points, queries, ranks, samples, shatters, sides, splits, tables, teachers, winnows, words)
from lessonwright.errors import BadPaper, LearnFault
from makers import all_tables, ends_in_ab, is_tuples, some_machines

F, T = False, True
EITHER = [([0, 0], F), ([0, 1], T), ([1, 0], T), ([1, 1], F)]
SIGNED = [([1, 1], 1), ([1, -1], -1)]
RULES = [[F, F], [F, T], [T, F], [T, T]]
TREE = splits.Fork("a", splits.Leaf("b"), splits.Leaf(""))


def machine():
    return ends_in_ab()


def table():
    return tables.Table(teachers.Teacher(machine()))


def formula():
    return ors.Or(2, [[1, 0]])


def horn():
    return horns.Horn(2, [([0], 1), ([1], None)])


def counts():
    return chances.counted(EITHER, 2)


def boost():
    return boosts.Boost([([0, 0], F), ([0, 1], T), ([1, 0], T), ([1, 1], T)], 2)


def weigher():
    return ranks.Weigher("ab", [1, 0], {"a": [[1, 1], [0, 1]], "b": [[1, 0], [0, 1]]}, [0, 1])


def desk():
    found = desks.Desk()
    for line in ("open 2", "see 01 yes"):
        found.do(line)
    return found


# By the marks of the document: what gives a tuple, a list and a table.
TUPLES = (
    lambda: words.key("ab"), lambda: words.in_order(["b", "a", "b"]), lambda: words.all_words("ab", 2),
    lambda: words.beginnings("ab"), lambda: words.endings("ab"), lambda: words.all_beginnings(["ab"]),
    lambda: machine().shown(), lambda: machines.parts(machine()), lambda: machines.counts(machine(), 2),
    lambda: teachers.mistakes(machine(), {"a": T}), lambda: table().row("a"),
    lambda: tables.learned_by_table(teachers.Teacher(machine()))[1],
    lambda: splits.learned_by_splits(teachers.Teacher(machine()))[1], lambda: splits.ends_of(TREE),
    lambda: splits.leaves(TREE), lambda: parted.paper(machine()), lambda: parted.same_pairs(machine(), machine()),
    lambda: parted.fewer_ends(machine(), [["", "a", "ab"], ["", "b"]]),
    lambda: points.all_points(2), lambda: points.check_point([0, 1], 2), lambda: points.meet([0, 1], [1, 1]),
    lambda: points.join([0, 1], [1, 1]), lambda: points.ones([0, 1]), lambda: points.from_ones([1], 2),
    lambda: points.flipped([0, 1], 0), lambda: points.table_of(any, 2), lambda: points.first_unlike(any, all, 2),
    lambda: ands.And(2, {1: 0}).shown(), lambda: ands.And(2, {}).narrowed([0, 1]), lambda: ands.all_rules(1),
    lambda: ands.points_of(ands.And(2, {1: 0})), lambda: formula().shown(), lambda: ors.least_true(any, [1, 1]),
    lambda: ors.OrTeacher(formula()).wrong_at(ors.Or(2, [])), lambda: ors.edges(formula()),
    lambda: ors.crossed(formula()), lambda: ors.lot_point([1], 2), lambda: horn().shown(),
    lambda: horns.Horn(2, [([0], 1)]).closed([1, 0]), lambda: horns.HornTeacher(horn()).wrong_at(horns.Horn(2, [])),
    lambda: ladders.Ladder([[0, 1, T]], F).shown(), lambda: ladders.next_step({(0, 1): T}, 2),
    lambda: ladders.learned_ladder(EITHER, 2), lambda: boughs.table_key({(0, 1): T}),
    lambda: halves.hard_tree(RULES, 2),
    lambda: winnows.alive(winnows.Winnow(2)), lambda: sides.parted(SIGNED),
    lambda: sides.mixed_away([([1], 1), ([1], -1)]), lambda: sides.lifted([1]), lambda: sides.squared([1, 2]),
    lambda: experts.Vote(2).whole_weights(), lambda: experts.Mix(2).shares(), lambda: experts.Mix(2).see([0, 1]),
    lambda: experts.small(2, 4),
    lambda: experts.added([1, 2], [1, 3]), lambda: shatters.all_lots(2), lambda: shatters.ways_on(RULES, [0]),
    lambda: shatters.largest(RULES), lambda: shatters.witnesses_of(RULES, [0]), lambda: shatters.pressed([[T, F]]),
    lambda: shatters.growth(RULES), lambda: boosts.Stump(0, 1).shown(), lambda: boost().step(),
    lambda: nears.nearest(EITHER, [0, 1], 2), lambda: nears.fewer_examples(EITHER),
    lambda: nears.middle_of([[0, 1], [1, 1]]), lambda: counts().answers(), lambda: counts().weight(T, [0, 1]),
    lambda: counts().chance(T, [0, 1]), lambda: counts().shown(), lambda: lines.part(2, 4),
    lambda: lines.plus([1, 2], [1, 3]), lambda: lines.times([1, 2], [1, 3]), lambda: lines.minus([1, 2], [1, 3]),
    lambda: lines.solved([[[2, 1]]], [[1, 1]]), lambda: lines.closest([([1], 2)]),
    lambda: lines.missed([([1], 2)], [[1, 1]]), lambda: lines.squares([[1, 2]]),
    lambda: lines.check_closest([([1], 2)], [[2, 1]]), lambda: lines.rising([2, 1]),
    lambda: lines.check_rising([1], [[1, 1]]), lambda: groups.spread([1, 2]), lambda: groups.grouped([2, 1, 5], 2),
    lambda: groups.check_groups([1], [[1]], {(0, 0): (0, 1), (1, 1): (0, 1)}), lambda: groups.ties([[0], [3]]),
    lambda: groups.tied([[0], [3]], 1), lambda: queries.asked_for([1, 1], [[0]], 1),
    lambda: queries.alike_things([], 2), lambda: ranks.mixed([[1]], [2]), lambda: ranks.Learned(weigher()).weight("a"),
    lambda: ranks.total([[1, 2]]), lambda: desks.point_of("01", 2),
    lambda: desk().here("01"), lambda: desks.lines_of(desk().text))
LISTS = (
    lambda: table().outer(), lambda: ors.lots_in_order(((1, 0),)), lambda: horns.all_asks((0, 1), 2),
    lambda: ladders.trimmed(((0, 1, F), (0, 0, T)), T), lambda: halves.check_rules(RULES),
    lambda: halves.kept(((T,),), 0, T), lambda: sides.check_signed(SIGNED), lambda: boosts.all_stumps(2),
    lambda: nears.check_rows(EITHER), lambda: queries.check_things((1,)), lambda: queries.places_in((0, 1)),
    lambda: queries.check_questions(([0],), 1), lambda: ranks.table(len, ("a",), ("",)),
    lambda: ranks.row_table(weigher(), ("a",), ("",)), lambda: ranks.free_starts(weigher(), ("a",), ("",)),
    lambda: desk().in_order())
TABLES = (
    lambda: machines.reached(machine()), lambda: machines.parting_words(machine()),
    lambda: teachers.from_examples("a", [("a", T)]), lambda: points.check_examples(EITHER, 2),
    lambda: ands.with_bit({}, 0, 1), lambda: boughs.tree_costs(EITHER, 2, F), lambda: groups.group_costs([1, 2], 2),
    lambda: queries.depths((0, 1)), lambda: queries.query_costs([1, 1], [[0]]))
FIELDS = (
    (machine, {"rows": list, "takes": tuple}), (lambda: teachers.Teacher(machine()), {"asked": dict}),
    (lambda: teachers.Sly(machine(), ("a",)), {"asked": dict, "tails": list}), (table, {"starts": list, "ends": list}),
    (lambda: splits.Splitter(teachers.Teacher(machine())), {"words": list}),
    (lambda: samples.Merge("a", {"a": T}), {"words": tuple, "owner": dict, "told": dict}),
    (lambda: ands.And(2, [(0, 1)]), {"bits": dict}), (lambda: ands.Edges(2), {"high": list}), (formula, {"lots": list}),
    (lambda: ors.OrTeacher(formula()), {"asked": dict}), (horn, {"rules": list}),
    (lambda: horns.HornTeacher(horn()), {"asked": dict}), (lambda: ladders.Ladder([[0, 1, T]], F), {"steps": tuple}),
    (lambda: halves.Halving(RULES), {"rules": list}), (lambda: halves.Careful(RULES), {"rules": list}),
    (lambda: winnows.Winnow(2), {"weights": list, "lacks": int, "spares": int}),
    (lambda: sides.Parter(2), {"weights": tuple}), (lambda: experts.Vote(2), {"wrong": list}),
    (lambda: experts.Mix(2), {"weights": list, "losses": list, "loss": tuple, "rest": tuple}),
    (lambda: experts.Sleepers(2), {"wrong": list}),
    (boost, {"table": dict, "weights": dict, "rules": list, "wrongs": list}), (counts, {"told": dict, "ones": dict}),
    (weigher, {"first": tuple, "squares": dict, "last": tuple}),
    (lambda: ranks.Learned(weigher()), {"starts": list, "first": tuple, "steps": dict, "last": list}),
    (desk, {"examples": dict, "text": str, "lines": int}))


class Kinds(unittest.TestCase):
    def test_tuples_whose_rows_are_tuples(self):
        for place, row in enumerate(TUPLES):
            with self.subTest(place=place):
                self.assertTrue(is_tuples(row()), row())

    def test_halves_are_a_tuple_of_tables(self):
        found = boughs.halves({(0, 1): T}, 0)
        self.assertEqual((type(found), [type(part) for part in found]), (tuple, [dict, dict]))

    def test_lists(self):
        for place, row in enumerate(LISTS):
            with self.subTest(place=place):
                self.assertIsInstance(row(), list)
                # What is told in order elsewhere than behind a mark is a tuple.
                self.assertNotIn(list, [type(part) for part in row()])

    def test_tables(self):
        for place, row in enumerate(TABLES):
            with self.subTest(place=place):
                self.assertIs(type(row()), dict)

    def test_fields(self):
        for place, (maker, fields) in enumerate(FIELDS):
            for name, kind in fields.items():
                with self.subTest(place=place, name=name):
                    found = getattr(maker(), name)
                    self.assertIs(type(found), kind)
                    if kind is tuple:
                        self.assertTrue(is_tuples(found))
                    if kind is list:
                        self.assertNotIn(list, [type(part) for part in found])

    def test_a_def_that_tells_no_answer_gives_none(self):
        found = tables.Table(teachers.Teacher(machine()))
        splitter = splits.Splitter(teachers.Teacher(machine()))
        self.assertIsNone(found.settle())
        self.assertIsNone(found.take_in("ab"))
        self.assertIsNone(splitter.split(splitter.guess(), "ab"))
        self.assertIsNone(ands.Edges(2).see([0, 1], T))
        self.assertIsNone(horns.take_in(horns.HornTeacher(horn()), [], (1, 0)))
        self.assertIsNone(boost().lighten())
        self.assertIsNone(counts().put([0, 1], T))
        self.assertIsNone(counts().take([0, 1], T))
        self.assertIsNone(desk().begin(2))
        self.assertIsNone(desk().drop([0, 1]))


class Papers(unittest.TestCase):
    def test_no_tree_that_agrees_is_smaller_or_flatter(self):
        trees = [F, T]
        for place in (0, 1):
            below = [F, T] + [(1 - place, low, high) for low in (F, T) for high in (F, T)]
            trees.extend((place, low, high) for low in below for high in below)
        for table in all_tables(2):
            examples = list(table.items())
            for flat, cost in ((F, boughs.size), (T, boughs.depth)):
                tree = boughs.best(examples, 2, flat)
                costs = boughs.tree_costs(examples, 2, flat)
                self.assertTrue(boughs.tree_agrees(tree, examples))
                self.assertEqual(boughs.check_costs(examples, 2, flat, costs), cost(tree))
                self.assertEqual(cost(tree), min(cost(one) for one in trees if boughs.tree_agrees(one, examples)))

    def test_formulas_papers_are_taken_for_no_other_formula(self):
        lots = [lot for size in range(4) for lot in combinations(range(3), size)]
        shown = {ors.Or(3, some).shown() for size in range(4) for some in combinations(lots, size)}
        formulas = [ors.Or(3, some) for some in sorted(shown)]
        self.assertEqual(len(formulas), 20)
        for one in formulas:
            teacher = ors.OrTeacher(one)
            self.assertEqual(ors.learned_or(teacher).shown(), one.shown())
            # A guess for each lot, and the right one.
            self.assertEqual(teacher.guesses, len(one.lots) + 1)
            for other in formulas:
                if other.shown() == one.shown():
                    self.assertIs(ors.check_edges(one.has, 3, one, ors.edges(one)), True)
                else:
                    for has, guess, paper in ((one.has, other, ors.edges(one)), (one.has, one, ors.edges(other)),
                                              (other.has, one, ors.edges(one))):
                        with self.assertRaises(BadPaper):
                            ors.check_edges(has, 3, guess, paper)

    def test_machines_papers_are_taken_for_no_other_machine(self):
        lot = [machines.least(one) for one in some_machines(80, 3, seed=4)]
        lot = list({one.shown(): one for one in lot}.values())
        self.assertGreater(len(lot), 10)
        for one in lot:
            paper = parted.paper(one)
            self.assertIs(parted.check_least(one, one.has, paper), True)
            self.assertIs(parted.check_same(one, one, parted.same_pairs(one, one)), True)
            for other in lot:
                if other is not one:
                    for pairs in ([(0, 0)], list(product(range(one.size()), range(other.size())))):
                        with self.assertRaises(BadPaper):
                            parted.check_same(one, other, pairs)
                    with self.assertRaises(BadPaper):
                        parted.same_pairs(one, other)
            for learned_by in (tables.learned_by_table, splits.learned_by_splits):
                teacher = teachers.Teacher(one)
                learned, wrong = learned_by(teacher)
                self.assertIsNone(machines.difference(learned, one))
                self.assertLessEqual(teacher.guesses, one.size())
                self.assertEqual(len(wrong), teacher.guesses - 1)


class Mistakes(unittest.TestCase):
    def test_over_all_rules_of_two_questions_and_any_row(self):
        for rules in (some for size in range(1, 5) for some in combinations(sorted(map(tuple, RULES)), size)):
            least = halves.fewest(rules)
            self.assertGreaterEqual(least, shatters.dimension(rules))
            self.assertLessEqual(least, halves.most_halvings(len(rules)))
            for right in rules:
                for row in product((0, 1), repeat=4):
                    careful, halving = halves.Careful(rules), halves.Halving(rules)
                    for question in row:
                        careful.see(question, right[question])
                        halving.see(question, right[question])
                    self.assertLessEqual(careful.mistakes, least)
                    self.assertLessEqual(halving.mistakes, halves.most_halvings(len(rules)))

    def test_on_all_rows_of_points_of_two_places(self):
        some = list(product((0, 1), repeat=2))
        for rule in ands.all_rules(2):
            for row in product(some, repeat=4):
                learner = ands.Learner(2)
                for point in row:
                    learner.see(point, rule.has(point))
                self.assertLessEqual(learner.mistakes, ands.most_mistakes(2))
        for places in ((0,), (1,), (0, 1)):
            for row in product(some, repeat=4):
                learner = winnows.Winnow(2)
                for point in row:
                    learner.see(point, winnows.is_any(point, places))
                self.assertLessEqual(learner.lacks + learner.spares, winnows.most_winnow(2, len(places)))


class Refused(unittest.TestCase):
    def test_each_error_of_the_program_is_a_learn_fault(self):
        for asked in (lambda: words.check_word("c", "ab"), lambda: machines.Machine("a", [], []),
                      lambda: ors.Or(1, [(1,)]), lambda: points.check_point((2,), 1), lambda: parted.check_same(
                          machine(), machine(), []), lambda: shatters.all_lots(11), lambda: desks.number("x"),
                      lambda: desks.lines_of("x\n"), lambda: desks.Desk().places()):
            with self.assertRaises(LearnFault):
                asked()


if __name__ == "__main__":
    unittest.main()
