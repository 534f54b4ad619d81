import unittest

from lessonwright.errors import BadSize, BadWord
from lessonwright.words import (
    all_beginnings, all_words, beginnings, by_number, check_word, endings, in_order, is_closed_by_beginnings, key,
    number_of)
from makers import words_up_to


class CheckWord(unittest.TestCase):
    def test_gives_the_word(self):
        self.assertEqual(check_word("abba", "ab"), "abba")
        self.assertEqual(check_word("", "ab"), "")
        self.assertEqual(check_word("", ""), "")

    def test_refuses_other_letters_wherever_they_stand(self):
        for word in ("c", "cab", "abc", "acb", "A", " "):
            with self.subTest(word), self.assertRaises(BadWord):
                check_word(word, "ab")

    def test_refuses_any_letter_of_no_alphabet(self):
        with self.assertRaises(BadWord):
            check_word("a", "")


class Order(unittest.TestCase):
    def test_key(self):
        self.assertEqual(key("ba"), (2, "ba"))
        self.assertEqual(key(""), (0, ""))
        self.assertIsInstance(key("a"), tuple)

    def test_in_order_by_length_then_letters_each_once(self):
        self.assertEqual(in_order(["ba", "b", "ab", "", "b", "a"]), ("", "a", "b", "ab", "ba"))
        self.assertEqual(in_order([]), ())
        self.assertIsInstance(in_order(("a",)), tuple)

    def test_in_order_leaves_what_is_handed_in(self):
        words = ["b", "a", "b"]
        in_order(words)
        self.assertEqual(words, ["b", "a", "b"])


class AllWords(unittest.TestCase):
    def test_in_order(self):
        self.assertEqual(all_words("ab", 2), ("", "a", "b", "aa", "ab", "ba", "bb"))
        self.assertEqual(all_words("abc", 4), tuple(words_up_to("abc", 4)))

    def test_bare_word_alone(self):
        self.assertEqual(all_words("ab", 0), ("",))
        self.assertEqual(all_words("", 3), ("",))

    def test_letters_in_any_order_give_words_in_order(self):
        self.assertEqual(all_words("ba", 2), all_words("ab", 2))

    def test_up_to_five_thousand(self):
        self.assertEqual(len(all_words("ab", 11)), 4095)
        self.assertEqual(len(all_words("a", 4999)), 5000)

    def test_refuses_more_than_five_thousand(self):
        for letters, most in (("ab", 12), ("a", 5000), ("abcdefghijklmnopqrstuvwxyz", 3), ("ab", 1000)):
            with self.subTest(letters=letters), self.assertRaises(BadSize):
                all_words(letters, most)


class BeginningsAndEnds(unittest.TestCase):
    def test_beginnings(self):
        self.assertEqual(beginnings("aba"), ("", "a", "ab", "aba"))
        self.assertEqual(beginnings(""), ("",))

    def test_endings(self):
        self.assertEqual(endings("abb"), ("", "b", "bb", "abb"))
        self.assertEqual(endings(""), ("",))

    def test_all_beginnings(self):
        self.assertEqual(all_beginnings(["ba", "ab", "b"]), ("", "a", "b", "ab", "ba"))
        self.assertEqual(all_beginnings([]), ())
        self.assertEqual(all_beginnings([""]), ("",))

    def test_is_closed_by_beginnings(self):
        self.assertIs(is_closed_by_beginnings(["", "a", "ab"]), True)
        self.assertIs(is_closed_by_beginnings(("ab", "a", "")), True)
        self.assertIs(is_closed_by_beginnings([]), True)
        self.assertIs(is_closed_by_beginnings(["a"]), False)
        self.assertIs(is_closed_by_beginnings(["", "ab"]), False)


class Numbers(unittest.TestCase):
    def test_bare_word_is_nought(self):
        self.assertEqual(number_of("", "ab"), 0)
        self.assertEqual(by_number(0, "ab"), "")

    def test_count_all_words_in_order(self):
        for letters in ("a", "ab", "abc", "ba"):
            for number, word in enumerate(words_up_to(letters, 4)):
                with self.subTest(letters=letters, word=word):
                    self.assertEqual(number_of(word, letters), number)
                    self.assertEqual(by_number(number, letters), word)

    def test_large_numbers(self):
        self.assertEqual(number_of(by_number(10 ** 30, "abc"), "abc"), 10 ** 30)

    def test_refuses_below_nought(self):
        for number in (-1, -100):
            with self.assertRaises(BadSize):
                by_number(number, "ab")


if __name__ == "__main__":
    unittest.main()
