import unittest

from lessonwright.errors import BadSize, BadWord
from lessonwright.machines import Machine
from lessonwright.splits import Fork, Leaf, Splitter, ends_of, learned_by_splits, leaves, put, split_depth
from lessonwright.teachers import Sly, Teacher
from makers import LearnsMachines, ends_in_ab, even_a, some_machines


def shape(tree):
    """A tree as tuples, to be compared."""
    if isinstance(tree, Leaf):
        return tree.word
    return tree.end, shape(tree.taken), shape(tree.left)


class Trees(unittest.TestCase):
    def tree(self):
        return Fork("b", Fork("", Leaf("ab"), Leaf("a")), Leaf(""))

    def test_fields(self):
        tree = self.tree()
        self.assertEqual(tree.end, "b")
        self.assertEqual(tree.taken.end, "")
        self.assertEqual(tree.left.word, "")

    def test_put(self):
        old = self.tree()
        new = put(old, "a", Fork("aa", Leaf("a"), Leaf("ba")))
        self.assertEqual(shape(new), ("b", ("", "ab", ("aa", "a", "ba")), ""))
        self.assertEqual(shape(old), ("b", ("", "ab", "a"), ""))

    def test_put_at_the_root_and_nowhere(self):
        self.assertEqual(shape(put(Leaf(""), "", self.tree())), shape(self.tree()))
        self.assertEqual(shape(put(self.tree(), "bb", Leaf("x"))), shape(self.tree()))

    def test_ends_and_leaves_taken_ones_first(self):
        tree = Fork("b", self.tree(), Fork("aa", Leaf("ba"), Leaf("bb")))
        self.assertEqual(ends_of(tree), ("b", "b", "", "aa"))
        self.assertEqual(leaves(tree), ("ab", "a", "", "ba", "bb"))
        self.assertEqual(split_depth(tree), 3)

    def test_a_leaf_alone(self):
        self.assertEqual((ends_of(Leaf("a")), leaves(Leaf("a")), split_depth(Leaf("a"))), ((), ("a",), 0))
        self.assertEqual(split_depth(Fork("", Leaf("a"), Leaf(""))), 1)


class Sifted(unittest.TestCase):
    def test_fields(self):
        teacher = Teacher(even_a())
        splitter = Splitter(teacher)
        self.assertIs(splitter.teacher, teacher)
        self.assertEqual((splitter.letters, splitter.words, shape(splitter.tree)), ("ab", [""], ""))

    def test_all_falls_to_the_one_leaf(self):
        splitter = Splitter(Teacher(even_a()))
        self.assertEqual(splitter.sift("abba"), "")
        self.assertEqual(splitter.guess().shown(), ("ab", ((0, 0),), (True,)))

    def test_sift(self):
        splitter = Splitter(Teacher(ends_in_ab()))
        splitter.words = ["", "a", "ab"]
        splitter.tree = Fork("b", Leaf("a"), Fork("", Leaf("ab"), Leaf("")))
        self.assertEqual([splitter.sift(word) for word in ("", "b", "ba", "aba", "bab", "abb")],
                         ["", "", "a", "a", "ab", ""])
        self.assertEqual(splitter.guess().shown(), ends_in_ab().shown())

    def test_states_in_order_of_their_coming(self):
        splitter = Splitter(Teacher(ends_in_ab()))
        splitter.words = ["", "ab", "a"]
        splitter.tree = Fork("b", Leaf("a"), Fork("", Leaf("ab"), Leaf("")))
        self.assertEqual(splitter.guess().shown(), ("ab", ((2, 0), (2, 0), (2, 1)), (False, True, False)))

    def test_spot(self):
        splitter = Splitter(Teacher(ends_in_ab()))
        guess = splitter.guess()
        # "" stands for "a" in the guess, and "" and "b" aren't taken as "ab" is.
        self.assertEqual(splitter.spot(guess, "ab"), 0)
        self.assertEqual(splitter.spot(guess, "bbab"), 2)

    def test_spot_asks_by_halves(self):
        teacher = Teacher(ends_in_ab())
        splitter = Splitter(teacher)
        guess = splitter.guess()
        asked = teacher.words_asked()
        self.assertEqual(splitter.spot(guess, "b" * 62 + "ab"), 62)
        self.assertLessEqual(teacher.words_asked() - asked, 7)

    def test_the_place_is_where_the_guess_goes_wrong(self):
        for machine in some_machines(60, 8):
            teacher = Sly(machine, ["abaab", "bba", "a", "bbabab"])
            splitter = Splitter(teacher)
            guess = splitter.guess()
            word = teacher.wrong_at(guess)
            while word is not None:
                place = splitter.spot(guess, word)
                here, behind = [
                    splitter.words[guess.state_of(word[:at])] + word[at:] for at in (place, place + 1)]
                self.assertEqual(machine.has(here), machine.has(word))
                self.assertNotEqual(machine.has(behind), machine.has(word))
                splitter.split(guess, word)
                guess = splitter.guess()
                word = teacher.wrong_at(guess)

    def test_split(self):
        splitter = Splitter(Teacher(ends_in_ab()))
        splitter.split(splitter.guess(), "ab")
        self.assertEqual(splitter.words, ["", "a"])
        self.assertEqual(shape(splitter.tree), ("b", "a", ""))
        splitter.split(splitter.guess(), "ab")
        self.assertEqual(splitter.words, ["", "a", "ab"])
        self.assertEqual(shape(splitter.tree), ("b", "a", ("", "ab", "")))

    def test_taken_words_on_the_first_side(self):
        splitter = Splitter(Teacher(even_a()))
        splitter.split(splitter.guess(), "a")
        self.assertEqual(shape(splitter.tree), ("", "", "a"))

    def test_refuses_other_letters(self):
        splitter = Splitter(Teacher(even_a()))
        for asked in (splitter.spot, splitter.split):
            with self.assertRaises(BadWord):
                asked(splitter.guess(), "abc")
        self.assertEqual((splitter.words, shape(splitter.tree)), ([""], ""))


class Learned(LearnsMachines, unittest.TestCase):
    def learned(self, teacher):
        return learned_by_splits(teacher)

    def test_wrong_words_in_order_of_the_guesses(self):
        self.assertEqual(self.learn(Teacher(ends_in_ab()))[1], ("ab", "ab"))
        self.assertEqual(self.learn(Sly(ends_in_ab(), ["bab"]))[1], ("abbab", "ab"))

    def test_told_guesses_are_enough_or_past(self):
        self.assertEqual(learned_by_splits(Teacher(ends_in_ab()), 3)[1], ("ab", "ab"))
        teacher = Teacher(ends_in_ab())
        with self.assertRaises(BadSize):
            learned_by_splits(teacher, most=2)
        self.assertEqual(teacher.guesses, 2)
        with self.assertRaises(BadSize):
            learned_by_splits(Teacher(ends_in_ab()), 0)

    def test_past_sixty_guesses_where_no_count_is_told(self):
        steps = 61
        rows = [[state + 1] for state in range(steps - 1)] + [[steps - 1]]
        machine = Machine("a", rows, [False] * (steps - 1) + [True])
        teacher = Teacher(machine)
        with self.assertRaises(BadSize):
            learned_by_splits(teacher)
        self.assertEqual(teacher.guesses, 60)
        self.learn(Teacher(Machine("a", rows[:-2] + [[59]], [False] * 59 + [True])))


if __name__ == "__main__":
    unittest.main()
