import unittest

from lessonwright.errors import BadSize
from lessonwright.machines import Machine
from lessonwright.tables import Table, learned_by_table, most_words, table_words
from lessonwright.teachers import Sly, Teacher, no_words
from makers import LearnsMachines, ends_in_ab, even_a, some_machines


def only_b():
    """Four states: no word but "b"."""
    return Machine("ab", [[2, 1], [2, 2], [2, 2]], [False, True, False])


class Filled(unittest.TestCase):
    def test_fields(self):
        teacher = Teacher(even_a())
        table = Table(teacher)
        self.assertIs(table.teacher, teacher)
        self.assertEqual((table.letters, table.starts, table.ends), ("ab", [""], [""]))
        self.assertEqual(teacher.words_asked(), 0)

    def test_row(self):
        table = Table(Teacher(ends_in_ab()))
        self.assertEqual(table.row("ab"), (True,))
        table.ends = ["", "b", "ab"]
        self.assertEqual(table.row("a"), (False, True, True))
        self.assertIsInstance(table.row("a"), tuple)

    def test_outer(self):
        table = Table(Teacher(even_a()))
        self.assertEqual(table.outer(), ["a", "b"])
        table.starts = ["", "b", "a", "ba"]
        self.assertEqual(table.outer(), ["aa", "ab", "bb", "baa", "bab"])
        self.assertIsInstance(table.outer(), list)

    def test_open_word_is_the_first(self):
        table = Table(Teacher(only_b()))
        self.assertEqual(table.open_word(), "b")
        table.starts = ["", "b"]
        self.assertIsNone(table.open_word())
        table.ends = ["", "b"]
        self.assertEqual(table.open_word(), "a")

    def test_split_end_is_a_letter_and_an_end(self):
        table = Table(Teacher(only_b()))
        table.starts = ["", "b", "a"]
        self.assertEqual(table.split_end(), "b")
        table.ends = ["", "b"]
        self.assertIsNone(table.split_end())

    def test_split_end_with_a_longer_end(self):
        # "" and "a" are alike by the bare end and by "b", but not with "a" and then "b" behind.
        machine = Machine("ab", [[1, 0], [2, 1], [2, 3], [3, 3]], [False, False, False, True])
        table = Table(Teacher(machine))
        table.starts = ["", "a"]
        table.ends = ["", "b"]
        self.assertEqual(table.split_end(), "ab")

    def test_end_between_takes_letters_first_and_then_ends(self):
        table = Table(Teacher(ends_in_ab()))
        self.assertIsNone(table.end_between("", "b"))
        self.assertEqual(table.end_between("", "a"), "b")
        table.ends = ["", "b", "ab"]
        self.assertEqual(table.end_between("", "a"), "b")
        turned = Table(Teacher(Machine("ab", [[1, 0], [2, 3], [2, 2], [3, 3]], [False, False, True, True])))
        turned.ends = ["b", ""]
        self.assertEqual(turned.end_between("", "a"), "a")

    def test_letters_are_tried_in_order_whatever_the_alphabet(self):
        table = Table(Teacher(Machine("ba", [[1, 1], [2, 2], [2, 2]], [False, True, False])))
        self.assertEqual(table.end_between("", "a"), "a")
        self.assertEqual(table.outer(), ["a", "b"])

    def test_settle_closes(self):
        table = Table(Teacher(even_a()))
        table.settle()
        self.assertEqual((table.starts, table.ends), (["", "a"], [""]))

    def test_settle_parts_and_goes_on(self):
        table = Table(Teacher(ends_in_ab()))
        table.take_in("ab")
        table.settle()
        self.assertEqual((table.starts, table.ends), (["", "a", "ab"], ["", "b"]))
        self.assertIsNone(table.open_word())
        self.assertIsNone(table.split_end())

    def test_settle_of_one_state(self):
        table = Table(Teacher(no_words("ab")))
        table.settle()
        self.assertEqual((table.starts, table.ends), ([""], [""]))
        self.assertEqual(table.guess().shown(), no_words("ab").shown())

    def test_beginnings_are_taken_in_behind_those_that_are_there(self):
        table = Table(Teacher(ends_in_ab()))
        table.take_in("bab")
        self.assertEqual(table.starts, ["", "b", "ba", "bab"])
        table.take_in("bb")
        self.assertEqual(table.starts, ["", "b", "ba", "bab", "bb"])
        table.take_in("")
        self.assertEqual(table.starts, ["", "b", "ba", "bab", "bb"])

    def test_guess_numbers_states_by_the_beginnings(self):
        table = Table(Teacher(only_b()))
        table.starts = ["", "b", "a"]
        table.ends = ["", "b"]
        self.assertEqual(table.guess().shown(), ("ab", ((2, 1), (2, 2), (2, 2)), (False, True, False)))

    def test_guess_has_one_state_to_each_row(self):
        table = Table(Teacher(even_a()))
        table.take_in("aab")
        table.settle()
        self.assertEqual(table.guess().shown(), even_a().shown())

    def test_table_words(self):
        table = Table(Teacher(ends_in_ab()))
        self.assertEqual(table_words(table), ("", "a", "b"))
        table.take_in("ab")
        table.settle()
        self.assertEqual(table_words(table), (
            "", "a", "b", "aa", "ab", "bb", "aab", "aba", "abb", "abab", "abbb"))

    def test_words_of_a_settled_table_are_those_asked(self):
        for machine in some_machines(20, 5):
            teacher = Teacher(machine)
            table = Table(teacher)
            table.settle()
            self.assertEqual(sorted(table_words(table)), sorted(teacher.asked))


class Learned(LearnsMachines, unittest.TestCase):
    def learned(self, teacher):
        return learned_by_table(teacher)

    def test_wrong_words_in_order_of_the_guesses(self):
        found, wrong = self.learn(Teacher(ends_in_ab()))
        self.assertEqual(wrong, ("ab",))
        self.assertEqual(found.shown(), ends_in_ab().shown())
        self.assertEqual(self.learn(Sly(ends_in_ab(), ["bab"]))[1], ("abbab",))

    def test_told_guesses_are_enough_or_past(self):
        self.assertEqual(learned_by_table(Teacher(ends_in_ab()), 2)[1], ("ab",))
        teacher = Teacher(ends_in_ab())
        with self.assertRaises(BadSize):
            learned_by_table(teacher, 1)
        self.assertEqual(teacher.guesses, 1)
        with self.assertRaises(BadSize):
            learned_by_table(Teacher(even_a()), most=0)
        self.assertEqual(learned_by_table(Teacher(even_a()), most=1)[1], ())

    def test_past_sixty_guesses_where_no_count_is_told(self):
        class Never(Teacher):
            def wrong_at(self, guess):
                self.guesses += 1
                return "ab"
        teacher = Never(ends_in_ab())
        with self.assertRaises(BadSize):
            learned_by_table(teacher)
        self.assertEqual(teacher.guesses, 60)


class Bound(unittest.TestCase):
    def test_one_state(self):
        self.assertGreaterEqual(most_words(1, 2, 0), 3)

    def test_grows(self):
        self.assertLessEqual(most_words(2, 2, 3), most_words(3, 2, 3))
        self.assertLessEqual(most_words(2, 2, 3), most_words(2, 3, 3))
        self.assertLessEqual(most_words(2, 2, 3), most_words(2, 2, 4))


if __name__ == "__main__":
    unittest.main()
