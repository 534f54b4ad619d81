import unittest

from lessonwright.errors import BadMachine, BadSize, BadWord
from lessonwright.machines import (
    Machine, counts, difference, first_word, least, paired, parting, parting_words, parts, reached, turned)
from makers import all_machines, ends_in_ab, even_a, some_machines, words_taken, words_up_to


def takes_all():
    return Machine("ab", [[0, 0]], [True])


def takes_none():
    return Machine("ab", [[0, 0]], [False])


class Made(unittest.TestCase):
    def test_fields(self):
        machine = Machine("ab", ((1, 0), [1, 1]), [False, True])
        self.assertEqual(machine.letters, "ab")
        self.assertEqual(machine.rows, [(1, 0), (1, 1)])
        self.assertIsInstance(machine.rows, list)
        self.assertIsInstance(machine.rows[1], tuple)
        self.assertEqual(machine.takes, (False, True))
        self.assertIsInstance(machine.takes, tuple)

    def test_keeps_nothing_of_what_is_handed_in(self):
        rows = [[0, 0]]
        takes = [True]
        machine = Machine("ab", rows, takes)
        rows[0][0] = 7
        rows.append([1, 1])
        takes.append(False)
        self.assertEqual(machine.shown(), ("ab", ((0, 0),), (True,)))

    def test_one_state_and_no_letters(self):
        self.assertEqual(Machine("", [[]], [True]).shown(), ("", ((),), (True,)))
        self.assertIs(Machine("", [()], [True]).has(""), True)

    def test_refuses_no_states_and_other_counts_of_takings(self):
        for rows, takes in (([], []), ((), ()), ([], [True]), ([[0, 0]], []), ([[0, 0]], [True, False])):
            with self.subTest(rows=rows, takes=takes), self.assertRaises(BadMachine):
                Machine("ab", rows, takes)

    def test_refuses_rows_of_other_lengths(self):
        for rows in ([[0]], [[0, 0, 0]], [[]], [[0, 0], [0]]):
            with self.subTest(rows=rows), self.assertRaises(BadMachine):
                Machine("ab", rows, [True] * len(rows))

    def test_refuses_states_that_are_not_there(self):
        for rows in ([[0, 1]], [[-1, 0]], [[0, 0], [2, 0]], [[0, 0], [0, -2]]):
            with self.subTest(rows=rows), self.assertRaises(BadMachine):
                Machine("ab", rows, [True] * len(rows))


class Walked(unittest.TestCase):
    def test_step(self):
        machine = ends_in_ab()
        self.assertEqual([machine.step(state, letter) for state in range(3) for letter in "ab"], [1, 0, 1, 2, 1, 0])

    def test_letters_are_columns_in_their_own_order(self):
        machine = Machine("ba", [[1, 0], [1, 1]], [False, True])
        self.assertEqual(machine.step(0, "b"), 1)
        self.assertEqual(machine.step(0, "a"), 0)

    def test_state_of(self):
        machine = ends_in_ab()
        self.assertEqual(machine.state_of(""), 0)
        self.assertEqual(machine.state_of("aab"), 2)
        self.assertEqual(machine.state_of("b", 1), 2)
        self.assertEqual(machine.state_of("", start=2), 2)

    def test_has(self):
        machine = ends_in_ab()
        taken = [word for word in words_up_to("ab", 6) if machine.has(word)]
        self.assertEqual(taken, [word for word in words_up_to("ab", 6) if word.endswith("ab")])
        self.assertIs(machine.has("ab"), True)
        self.assertIs(machine.has(""), False)

    def test_refuses_other_letters(self):
        machine = even_a()
        for word in ("c", "abc", "cab"):
            with self.assertRaises(BadWord):
                machine.state_of(word)
            with self.assertRaises(BadWord):
                machine.state_of(word, 1)
            with self.assertRaises(BadWord):
                machine.has(word)
        self.assertEqual(machine.shown(), even_a().shown())

    def test_size_and_shown(self):
        self.assertEqual(ends_in_ab().size(), 3)
        shown = ends_in_ab().shown()
        self.assertEqual(shown, ("ab", ((1, 0), (1, 2), (1, 0)), (False, False, True)))
        self.assertIsInstance(shown, tuple)
        self.assertIsInstance(shown[1], tuple)


class Reached(unittest.TestCase):
    def test_states_in_the_order_of_their_first_words(self):
        machine = Machine("ab", [[2, 1], [3, 3], [2, 4], [0, 0], [5, 1], [5, 5], [0, 0]], [False] * 7)
        found = reached(machine)
        self.assertIsInstance(found, dict)
        self.assertEqual(
            list(found.items()), [(0, ""), (2, "a"), (1, "b"), (4, "ab"), (3, "ba"), (5, "aba")])

    def test_one_state(self):
        self.assertEqual(reached(takes_all()), {0: ""})

    def test_first_words_are_first_in_order_whatever_the_alphabet(self):
        for machine in some_machines(40, 6, "ba"):
            first = {}
            for word in words_up_to("ab", 6):
                first.setdefault(machine.state_of(word), word)
            self.assertEqual(list(reached(machine).items()), list(first.items()))


class Least(unittest.TestCase):
    def test_parts_number_classes_by_their_first_states(self):
        machine = Machine("ab", [[1, 2], [3, 0], [3, 0], [3, 3], [2, 1]], [False, True, True, False, False])
        self.assertEqual(parts(machine), (0, 1, 1, 2, 0))
        self.assertIsInstance(parts(machine), tuple)

    def test_parts_of_one_state_and_of_all_alike(self):
        self.assertEqual(parts(takes_none()), (0,))
        self.assertEqual(parts(Machine("a", [[1], [2], [0]], [True, True, True])), (0, 0, 0))

    def test_parts_are_alike_where_no_word_parts(self):
        for machine in some_machines(60, 6):
            rows = [tuple([machine.takes[machine.state_of(word, state)] for word in words_up_to("ab", 6)])
                    for state in range(machine.size())]
            order = []
            for row in rows:
                if row not in order:
                    order.append(row)
            self.assertEqual(parts(machine), tuple([order.index(row) for row in rows]))

    def test_least_takes_the_same_and_has_no_like_states(self):
        for machine in list(all_machines(2)) + list(some_machines(80, 6)):
            small = least(machine)
            self.assertEqual(words_taken(small, 7), words_taken(machine, 7))
            self.assertEqual(parts(small), tuple(range(small.size())))

    def test_states_are_numbered_as_words_come_to_them(self):
        for machine in some_machines(80, 6):
            self.assertEqual(list(reached(least(machine))), list(range(least(machine).size())))

    def test_least_of_turned_numbers(self):
        other = Machine("ab", [[2, 0], [2, 0], [2, 1], [3, 3]], [False, True, False, True])
        self.assertEqual(least(other).shown(), ends_in_ab().shown())

    def test_states_no_word_leads_to_are_gone(self):
        self.assertEqual(least(Machine("a", [[0], [1]], [True, False])).shown(), ("a", ((0,),), (True,)))


class Pairs(unittest.TestCase):
    def test_paired_takes_as_a_function_of_both_tells(self):
        one, other = ends_in_ab(), even_a()
        for take in (lambda mine, theirs: mine and theirs, lambda mine, theirs: mine and not theirs,
                     lambda mine, theirs: mine or theirs):
            both = paired(one, other, take)
            for word in words_up_to("ab", 6):
                self.assertEqual(both.has(word), take(one.has(word), other.has(word)))

    def test_paired_states_are_come_to_in_order(self):
        both = paired(ends_in_ab(), even_a(), lambda mine, theirs: mine)
        self.assertEqual(list(reached(both)), list(range(both.size())))

    def test_paired_refuses_other_letters(self):
        for other in (Machine("a", [[0]], [True]), Machine("abc", [[0, 0, 0]], [True])):
            with self.assertRaises(BadMachine):
                paired(takes_all(), other, lambda mine, theirs: mine)
            with self.assertRaises(BadMachine):
                difference(takes_all(), other)

    def test_difference_is_the_first_word(self):
        machines = list(some_machines(30, 4))
        for one, other in zip(machines, machines[1:]):
            unlike = [word for word in words_up_to("ab", 8) if one.has(word) != other.has(word)]
            self.assertEqual(difference(one, other), unlike[0] if unlike else None)

    def test_difference_of_machines_alike(self):
        self.assertIsNone(difference(ends_in_ab(), ends_in_ab()))
        self.assertIsNone(difference(takes_none(), Machine("ab", [[1, 0], [0, 1]], [False, False])))

    def test_difference_at_the_bare_word(self):
        self.assertEqual(difference(takes_all(), takes_none()), "")

    def test_turned(self):
        machine = turned(even_a())
        self.assertEqual(machine.shown(), ("ab", ((1, 0), (0, 1)), (False, True)))
        self.assertEqual(even_a().takes, (True, False))


class FirstAndCounts(unittest.TestCase):
    def test_first_word(self):
        self.assertEqual(first_word(ends_in_ab()), "ab")
        self.assertEqual(first_word(takes_all()), "")
        self.assertIsNone(first_word(takes_none()))
        self.assertIsNone(first_word(Machine("ab", [[0, 0], [1, 1]], [False, True])))
        self.assertEqual(first_word(Machine("ba", [[1, 1], [1, 1]], [False, True])), "a")

    def test_first_word_is_first_in_order(self):
        for machine in some_machines(60, 6):
            taken = words_taken(machine, 6)
            self.assertEqual(first_word(machine), taken[0] if taken else None)

    def test_counts(self):
        self.assertEqual(counts(ends_in_ab(), 4), (0, 0, 1, 2, 4))
        self.assertEqual(counts(takes_all(), 3), (1, 2, 4, 8))
        self.assertEqual(counts(takes_none(), 3), (0, 0, 0, 0))
        self.assertIsInstance(counts(takes_none(), 3), tuple)

    def test_counts_of_length_nought(self):
        self.assertEqual(counts(even_a(), 0), (1,))
        self.assertEqual(counts(ends_in_ab(), 0), (0,))

    def test_counts_are_of_taken_words(self):
        for machine in some_machines(30, 5, "abc"):
            sizes = [len(word) for word in words_taken(machine, 4)]
            self.assertEqual(counts(machine, 4), tuple([sizes.count(size) for size in range(5)]))

    def test_counts_refuses_below_nought(self):
        for most in (-1, -5):
            with self.assertRaises(BadSize):
                counts(even_a(), most)


class Parting(unittest.TestCase):
    def test_parting_words(self):
        found = parting_words(ends_in_ab())
        self.assertIsInstance(found, dict)
        self.assertEqual(list(found.items()), [((0, 1), "b"), ((0, 2), ""), ((1, 2), "")])

    def test_one_state_has_no_pairs(self):
        self.assertEqual(parting_words(takes_all()), {})

    def test_each_is_the_first_word_that_parts(self):
        for machine in some_machines(60, 6, "ba"):
            small = least(machine)
            for (one, other), word in parting_words(small).items():
                self.assertLess(one, other)
                parting_ones = [end for end in words_up_to("ab", 5)
                                if small.takes[small.state_of(end, one)] != small.takes[small.state_of(end, other)]]
                self.assertEqual(word, parting_ones[0])
                self.assertEqual(parting(small, one, other), word)
                self.assertEqual(parting(small, other, one), word)

    def test_all_pairs_are_there(self):
        small = least(Machine("a", [[1], [2], [3], [0]], [True, False, False, False]))
        self.assertEqual(sorted(parting_words(small)), [(0, 1), (0, 2), (0, 3), (1, 2), (1, 3), (2, 3)])

    def test_no_word_parts_like_states(self):
        machine = Machine("ab", [[1, 1], [0, 0]], [True, True])
        self.assertIsNone(parting(machine, 0, 1))
        self.assertIsNone(parting(ends_in_ab(), 1, 1))

    def test_parting_words_none_where_states_are_alike(self):
        self.assertEqual(parting_words(Machine("a", [[1], [0]], [True, True])), {(0, 1): None})


if __name__ == "__main__":
    unittest.main()
