import unittest

from lessonwright.errors import BadExample, BadMachine, BadWord
from lessonwright.machines import Machine, least
from lessonwright.teachers import Sly, Teacher, agrees, from_examples, mistakes, no_words
from makers import ends_in_ab, even_a, some_machines, words_up_to


class Plain(unittest.TestCase):
    def test_fields(self):
        machine = Machine("ab", [[2, 0], [2, 0], [2, 1]], [False, True, False])
        teacher = Teacher(machine)
        self.assertEqual(teacher.letters, "ab")
        self.assertEqual(teacher.hidden.shown(), least(machine).shown())
        self.assertEqual(teacher.asked, {})
        self.assertEqual(teacher.guesses, 0)

    def test_words_count_once(self):
        teacher = Teacher(even_a())
        self.assertIs(teacher.has("a"), False)
        self.assertIs(teacher.has(""), True)
        self.assertIs(teacher.has("a"), False)
        self.assertEqual(teacher.words_asked(), 2)
        self.assertEqual(teacher.asked, {"a": False, "": True})
        self.assertEqual(teacher.guesses, 0)

    def test_a_refused_word_counts_nothing(self):
        teacher = Teacher(even_a())
        teacher.has("a")
        with self.assertRaises(BadWord):
            teacher.has("abc")
        self.assertEqual(teacher.asked, {"a": False})
        self.assertEqual(teacher.words_asked(), 1)

    def test_guesses_count_each_time(self):
        teacher = Teacher(ends_in_ab())
        self.assertEqual(teacher.wrong_at(no_words("ab")), "ab")
        self.assertEqual(teacher.wrong_at(no_words("ab")), "ab")
        self.assertIsNone(teacher.wrong_at(ends_in_ab()))
        self.assertEqual(teacher.guesses, 3)
        self.assertEqual(teacher.words_asked(), 0)

    def test_the_first_word_a_guess_is_wrong_at(self):
        machines = list(some_machines(30, 4))
        for hidden, guess in zip(machines, machines[1:]):
            unlike = [word for word in words_up_to("ab", 8) if hidden.has(word) != guess.has(word)]
            self.assertEqual(Teacher(hidden).wrong_at(guess), unlike[0] if unlike else None)

    def test_a_refused_guess_counts_nothing(self):
        teacher = Teacher(even_a())
        with self.assertRaises(BadMachine):
            teacher.wrong_at(no_words("abc"))
        self.assertEqual(teacher.guesses, 0)


class Slier(unittest.TestCase):
    def test_is_a_teacher_with_tails(self):
        tails = ["a", "b"]
        teacher = Sly(even_a(), tails)
        self.assertIsInstance(teacher, Teacher)
        self.assertEqual(teacher.tails, ["a", "b"])
        self.assertIsInstance(Sly(even_a(), ("a",)).tails, list)
        self.assertEqual((teacher.letters, teacher.asked, teacher.guesses), ("ab", {}, 0))
        teacher.wrong_at(no_words("ab"))
        self.assertEqual(tails, ["a", "b"])

    def test_next_tail_stands_behind_where_that_is_still_wrong(self):
        teacher = Sly(even_a(), ["bb", "aa"])
        self.assertEqual(teacher.wrong_at(no_words("ab")), "bb")
        self.assertEqual(teacher.wrong_at(no_words("ab")), "aa")

    def test_a_tail_that_makes_it_right_is_left_out(self):
        teacher = Sly(even_a(), ["a", "b"])
        self.assertEqual(teacher.wrong_at(no_words("ab")), "")
        self.assertEqual(teacher.wrong_at(no_words("ab")), "b")

    def test_tails_used_up(self):
        teacher = Sly(ends_in_ab(), ["ab"])
        self.assertEqual(teacher.wrong_at(no_words("ab")), "abab")
        self.assertEqual(teacher.tails, [])
        self.assertEqual(teacher.wrong_at(no_words("ab")), "ab")
        self.assertEqual(teacher.guesses, 2)

    def test_a_right_guess_takes_no_tail(self):
        teacher = Sly(ends_in_ab(), ["ab"])
        self.assertIsNone(teacher.wrong_at(ends_in_ab()))
        self.assertEqual(teacher.guesses, 1)
        self.assertEqual(teacher.wrong_at(no_words("ab")), "abab")

    def test_its_own_words_count_as_none_asked(self):
        teacher = Sly(ends_in_ab(), ["ab", "b"])
        teacher.wrong_at(no_words("ab"))
        self.assertEqual(teacher.words_asked(), 0)
        self.assertIs(teacher.has("ab"), True)
        self.assertEqual(teacher.asked, {"ab": True})

    def test_what_is_refused_changes_nothing(self):
        teacher = Sly(even_a(), ["c"])
        with self.assertRaises(BadMachine):
            teacher.wrong_at(no_words("a"))
        with self.assertRaises(BadWord):
            teacher.wrong_at(no_words("ab"))
        self.assertEqual((teacher.guesses, teacher.tails), (0, ["c"]))


class Told(unittest.TestCase):
    def test_table_of_examples(self):
        examples = [("b", True), ["", False], ("b", True)]
        found = from_examples("ab", examples)
        self.assertIsInstance(found, dict)
        self.assertEqual(list(found.items()), [("b", True), ("", False)])
        self.assertEqual(from_examples("ab", ()), {})

    def test_refuses_a_word_told_both_ways(self):
        for examples in ([("a", True), ("a", False)], [("", False), ("b", True), ("", True)]):
            with self.assertRaises(BadExample):
                from_examples("ab", examples)

    def test_refuses_other_letters(self):
        with self.assertRaises(BadExample):
            from_examples("ab", [("a", True), ("ac", False)])

    def test_agrees(self):
        self.assertIs(agrees(even_a(), {"": True, "ab": False, "aab": True}), True)
        self.assertIs(agrees(even_a(), {"": True, "ab": True}), False)
        self.assertIs(agrees(even_a(), {}), True)

    def test_mistakes_in_the_order_of_the_table(self):
        table = {"ab": True, "": False, "a": False, "b": False}
        self.assertEqual(mistakes(even_a(), table), ("ab", "", "b"))
        self.assertEqual(mistakes(even_a(), {}), ())
        self.assertEqual(mistakes(even_a(), {"a": False}), ())

    def test_no_words(self):
        self.assertEqual(no_words("ab").shown(), ("ab", ((0, 0),), (False,)))
        self.assertEqual(no_words("").shown(), ("", ((),), (False,)))


if __name__ == "__main__":
    unittest.main()
