import unittest
from fractions import Fraction
from itertools import combinations

from lessonwright.errors import BadMachine, BadSize, BadWord
from lessonwright.ranks import (
    Learned, Weigher, free_starts, mixed, rank, rank_of, row_table, table, total)
from makers import Steps, is_tuples, words_up_to


def counter():
    """A word weighs as many as it has "a"s."""
    return Weigher("ab", (1, 0), {"a": [[1, 1], [0, 1]], "b": [[1, 0], [0, 1]]}, [0, 1])


def nothing():
    """All words weigh nothing, though there are states."""
    return Weigher("ab", [1, 2], {"a": ((1, 0), (3, 1)), "b": ((0, 1), (1, 0))}, [0, 0])


def some_weighers(count, most, seed=1):
    steps = Steps(seed)
    for _ in range(count):
        size = 1 + steps.below(most)
        wide = range(size)
        yield Weigher("ab", [steps.below(4) - 1 for _ in wide], {
            letter: [[steps.below(4) - 1 if steps.below(2) else 0 for _ in wide] for _ in wide] for letter in "ab"},
            [steps.below(4) - 1 for _ in wide])


def weight_anew(weigher, word):
    """A word's weight as the sum over all ways through the states."""
    ways = {state: number for state, number in enumerate(weigher.first)}
    for letter in word:
        ways = {there: sum(ways[here] * weigher.squares[letter][here][there] for here in ways) for there in ways}
    return sum(number * weigher.last[state] for state, number in ways.items())


def whole_of(square):
    """What tells whether rows are free: their one number, by the first row's."""
    if not square:
        return 1
    return sum((-1) ** place * number * whole_of([row[:place] + row[place + 1:] for row in square[1:]])
               for place, number in enumerate(square[0]))


def rank_anew(rows):
    """The size of the greatest square within rows whose rows are free."""
    wide = len(rows[0]) if rows else 0
    for size in range(min(len(rows), wide), 0, -1):
        for some in combinations(rows, size):
            for places in combinations(range(wide), size):
                if whole_of([tuple(row[place] for place in places) for row in some]) != 0:
                    return size
    return 0


class Weighers(unittest.TestCase):
    def test_fields(self):
        weigher = counter()
        self.assertEqual((weigher.letters, weigher.first, weigher.last), ("ab", (1, 0), (0, 1)))
        self.assertEqual(weigher.squares, {"a": ((1, 1), (0, 1)), "b": ((1, 0), (0, 1))})
        self.assertEqual([type(part) for part in (weigher.first, weigher.squares, weigher.last)], [tuple, dict, tuple])
        self.assertEqual((weigher.size(), nothing().size()), (2, 2))

    def test_weight(self):
        self.assertEqual([counter().weight(word) for word in ("", "b", "a", "abab", "aaa")], [0, 0, 1, 2, 3])
        self.assertEqual({nothing().weight(word) for word in words_up_to("ab", 4)}, {0})
        for weigher in some_weighers(30, 4):
            for word in words_up_to("ab", 4):
                self.assertEqual(weigher.weight(word), weight_anew(weigher, word))

    def test_letters_that_are_not_there(self):
        for word in ("c", "ac", "ba "):
            for asked in (counter().weight, Learned(counter()).weight):
                with self.assertRaises(BadWord):
                    asked(word)

    def test_no_states(self):
        weigher = Weigher("ab", [], {"a": [], "b": []}, [])
        self.assertEqual((weigher.size(), weigher.weight("ab"), rank_of(weigher)), (0, 0, 0))
        learned = Learned(weigher)
        self.assertEqual((learned.size(), learned.starts, learned.weight("ba")), (0, [], (0, 1)))

    def test_no_letters(self):
        self.assertEqual(Weigher("", [2, 3], {}, [5, 7]).weight(""), 31)
        self.assertEqual(rank_of(Weigher("", [2, 3], {}, [5, 7])), 1)

    def test_rows_that_are_not_square(self):
        for first, squares, last in (
                ([1], {"a": [[1]]}, [1]),                                       # a letter without a square
                ([1], {}, [1]),
                ([1], {"a": [[1]], "b": [[1, 0]]}, [1]),
                ([1], {"a": [[1]], "b": []}, [1]), ([1], {"a": [[1]], "b": [[]]}, [1]),
                ([1, 0], {"a": [[1, 0], [0, 1]], "b": [[1, 0]]}, [1, 0]),
                ([1, 0], {"a": [[1, 0], [0, 1, 2]], "b": [[1, 0], [0, 1]]}, [1, 0]),
                ([1, 0], {"a": [[1, 0], [0, 1], [0, 0]], "b": [[1, 0], [0, 1]]}, [1, 0]),
                ([1], {"a": [[1, 0], [0, 1]], "b": [[1, 0], [0, 1]]}, [1, 0]),  # as many first as last weights
                ([1, 0], {"a": [[1, 0], [0, 1]], "b": [[1, 0], [0, 1]]}, [1]),
                ([], {"a": [[1]], "b": [[1]]}, []), ([], {"a": [], "b": []}, [1])):
            with self.subTest(first=first, squares=squares, last=last), self.assertRaises(BadMachine):
                Weigher("ab", first, squares, last)


class Ranks(unittest.TestCase):
    def test_rank(self):
        self.assertEqual([rank([]), rank([[0, 0]]), rank([(2, 4), (1, 2)]), rank([[0, 3], [2, 0], [2, 3]])],
                         [0, 0, 1, 2])
        self.assertEqual((rank([[], []]), rank([[5]]), rank([[1], [2]])), (0, 1, 1))

    def test_rank_against_all_squares_within(self):
        steps = Steps(17)
        for _ in range(150):
            high, wide = 1 + steps.below(4), 1 + steps.below(4)
            rows = [tuple(steps.below(5) - 2 for _ in range(wide)) for _ in range(high)]
            self.assertEqual(rank(rows), rank_anew(rows))
            self.assertEqual(rank(list(zip(*rows))), rank(rows))

    def test_table(self):
        self.assertEqual(table(counter().weight, ["", "a"], ("", "b", "aa")), [(0, 0, 2), (1, 1, 3)])
        self.assertEqual(table(len, ("a",), ["", "bb"]), [(1, 3)])
        self.assertIsInstance(table(len, ("a",), [""]), list)
        self.assertEqual((table(len, [], [""]), table(len, ["a"], [])), ([], [()]))

    def test_row_table(self):
        self.assertEqual(row_table(counter(), ["", "a"], ("", "b", "aa")), [(0, 0, 2), (1, 1, 3)])
        self.assertIsInstance(row_table(counter(), ("",), ("",)), list)
        words = words_up_to("ab", 2)
        for weigher in some_weighers(20, 4, seed=5):
            self.assertEqual(row_table(weigher, words, words), table(weigher.weight, words, words))
        for starts, ends in ((["c"], ["a"]), (["a"], ["c"])):
            with self.assertRaises(BadWord):
                row_table(counter(), starts, ends)

    def test_rank_of(self):
        self.assertEqual((rank_of(counter()), rank_of(nothing())), (2, 0))
        # A state that is never come to, and one that weighs nothing, count for nothing.
        self.assertEqual(rank_of(Weigher("a", (1, 0, 0), {"a": ((2, 0, 1), (0, 5, 0), (0, 0, 3))}, (1, 1, 0))), 1)
        longer = words_up_to("ab", 3)
        for weigher in some_weighers(40, 3, seed=2):
            rows = [[weight_anew(weigher, start + end) for end in longer] for start in longer]
            self.assertEqual(rank_of(weigher), rank(rows))
            self.assertLessEqual(rank_of(weigher), weigher.size())

    def test_too_many_words(self):
        size = 14
        square = [[1 if row == place else 0 for place in range(size)] for row in range(size)]
        weigher = Weigher("ab", [1] * size, {"a": square, "b": square}, [1] * size)
        for asked in (rank_of, Learned):
            with self.assertRaises(BadSize):
                asked(weigher)


class Free(unittest.TestCase):
    def test_free_starts(self):
        self.assertEqual(free_starts(counter(), ("", "b", "a", "aa"), ("", "a")), ["", "a"])
        self.assertEqual(free_starts(counter(), ["aa", "", "a"], ["", "a"]), ["aa", ""])
        self.assertEqual(free_starts(counter(), ["", "a"], [""]), ["a"])
        self.assertEqual((free_starts(counter(), [], [""]), free_starts(nothing(), ["", "a"], ["", "b"])), ([], []))
        self.assertIsInstance(free_starts(counter(), ("",), ("a",)), list)

    def test_free_starts_against_ranks(self):
        words = words_up_to("ab", 2)
        for weigher in some_weighers(30, 3, seed=6):
            rows = table(weigher.weight, words, words)
            told = [word for place, word in enumerate(words) if rank(rows[:place + 1]) > rank(rows[:place])]
            self.assertEqual(free_starts(weigher, words, words), told)

    def test_mixed(self):
        self.assertEqual(mixed([(2, 0), (0, 3)], (1, 1)), ((1, 2), (1, 3)))
        self.assertEqual(mixed([[1, 2, 3]], [2, 4, 6]), ((2, 1),))
        self.assertEqual(mixed([(1, 1), (1, -1)], (0, 0)), ((0, 1), (0, 1)))
        # Rows are put together, not places.
        self.assertEqual(mixed([(1, 2), (0, 1)], (3, 7)), ((3, 1), (1, 1)))
        self.assertTrue(is_tuples(mixed([[1, 2]], [2, 4])))

    def test_what_rows_do_not_make(self):
        self.assertIsNone(mixed([[1, 2, 3]], [2, 4, 5]))
        self.assertIsNone(mixed([(1, 0, 0), (0, 1, 0)], (0, 0, 1)))
        self.assertEqual((mixed([], (0, 0)), mixed([], (0, 1)), mixed([], ())), ((), None, ()))

    def test_rows_that_are_not_free(self):
        for rows, row in (([(1, 2), (2, 4)], (1, 2)), ([(1, 2), (2, 4)], (1, 0)), ([(0, 0)], (0, 0)),
                          ([(0, 0)], (1, 0)), ([(1,), (2,)], (3,)), ([()], ())):
            with self.subTest(rows=rows, row=row), self.assertRaises(BadSize):
                mixed(rows, row)

    def test_total(self):
        self.assertEqual((total([]), total([(1, 2), (1, 3), (-5, 6)]), total([[1, 2], [1, 4]])),
                         ((0, 1), (0, 1), (3, 4)))
        with self.assertRaises(BadSize):
            total([(1, 0)])


class Learning(unittest.TestCase):
    def test_learned(self):
        learned = Learned(counter())
        self.assertEqual((learned.letters, learned.starts, learned.size()), ("ab", ["", "a"], 2))
        self.assertEqual(learned.first, ((1, 1), (0, 1)))
        self.assertEqual([type(part) for part in (learned.starts, learned.first, learned.steps, learned.last)],
                         [list, tuple, dict, list])
        self.assertEqual([learned.weight(word) for word in ("", "ab", "aaba")], [(0, 1), (1, 1), (3, 1)])
        self.assertTrue(is_tuples(learned.weight("ab")) and is_tuples(learned.first))

    def test_steps_are_told_by_the_free_beginnings(self):
        # "aa" is twice "a" less the bare word; "b" changes nothing.
        self.assertEqual(Learned(counter()).steps, {
            "a": (((0, 1), (1, 1)), ((-1, 1), (2, 1))), "b": (((1, 1), (0, 1)), ((0, 1), (1, 1)))})

    def test_weighs_nothing(self):
        learned = Learned(nothing())
        self.assertEqual((learned.size(), learned.starts, learned.first, learned.last), (0, [], (), []))
        self.assertEqual([learned.weight(word) for word in ("", "a", "bab")], [(0, 1)] * 3)

    def test_the_bare_word_may_be_left_out(self):
        # All words of one letter weigh nothing, and so does the bare one.
        weigher = Weigher("a", (1, 0, 0), {"a": ((0, 1, 0), (0, 0, 1), (0, 0, 0))}, (0, 0, 1))
        learned = Learned(weigher)
        self.assertEqual((learned.starts, learned.size()), (["", "a", "aa"], 3))
        self.assertEqual([learned.weight("a" * size) for size in range(5)], [(0, 1), (0, 1), (1, 1), (0, 1), (0, 1)])

    def test_weighs_as_another_with_the_fewest_states(self):
        fewer = 0
        for weigher in some_weighers(60, 4, seed=3):
            learned = Learned(weigher)
            for word in words_up_to("ab", 5):
                self.assertEqual(learned.weight(word), (weight_anew(weigher, word), 1))
            self.assertEqual(learned.size(), rank_of(weigher))
            words = words_up_to("ab", weigher.size() - 1)
            self.assertEqual(learned.starts, free_starts(weigher, words, words))
            fewer += learned.size() < weigher.size()
        self.assertGreater(fewer, 10)

    def test_letters_in_another_order(self):
        weigher = Weigher("ba", (1, 0), {"a": ((1, 1), (0, 1)), "b": ((1, 0), (0, 1))}, (0, 1))
        learned = Learned(weigher)
        self.assertEqual((learned.letters, learned.starts), ("ba", ["", "a"]))
        self.assertEqual(learned.weight("abba"), (2, 1))

    def test_parts_that_are_not_whole(self):
        weigher = Weigher("a", (2, 1), {"a": ((3, 1), (0, 2))}, (1, 1))
        learned = Learned(weigher)
        parts = [one for rows in learned.steps.values() for row in rows for one in row]
        self.assertTrue(all(Fraction(*one) == Fraction(one[0], one[1]) and one[1] > 0 for one in parts))
        self.assertEqual([learned.weight("a" * size) for size in range(6)],
                         [(weight_anew(weigher, "a" * size), 1) for size in range(6)])


if __name__ == "__main__":
    unittest.main()
