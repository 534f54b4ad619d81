import unittest

from lessonwright.errors import BadPaper
from lessonwright.machines import Machine, least, reached, turned
from lessonwright.parted import check_least, check_paper, check_same, fewer_ends, paper, same_pairs
from lessonwright.teachers import no_words
from makers import all_machines, ends_in_ab, even_a, some_machines


class Papers(unittest.TestCase):
    def test_paper(self):
        found = paper(ends_in_ab())
        self.assertEqual(found, (("", "a", "ab"), ("", "b")))
        self.assertIsInstance(found, tuple)
        self.assertIsInstance(found[0], tuple)
        self.assertIsInstance(found[1], tuple)

    def test_paper_of_one_state(self):
        words, ends = paper(no_words("ab"))
        self.assertEqual(words, ("",))
        self.assertEqual(check_paper(no_words("ab").has, (words, ends)), 1)

    def test_paper_is_of_the_least_machine(self):
        wide = Machine("ab", [[2, 0], [2, 0], [2, 1], [3, 3]], [False, True, False, True])
        self.assertEqual(paper(wide), paper(ends_in_ab()))

    def test_each_paper_shows_its_machine_least(self):
        for machine in list(all_machines(2)) + list(some_machines(60, 8)):
            small = least(machine)
            papers = paper(machine)
            self.assertEqual(papers[0], tuple(reached(small).values()))
            self.assertEqual(check_paper(machine.has, papers), small.size())
            self.assertIs(check_least(small, machine.has, papers), True)

    def test_check_paper_counts_words(self):
        self.assertEqual(check_paper(even_a().has, (["", "a"], [""])), 2)
        self.assertEqual(check_paper(even_a().has, (("a",), ())), 1)

    def test_check_paper_refuses_words_not_parted(self):
        for papers in ((("", "aa"), ("", "a")), (("", "a"), ()), (("a", "a"), ("", "a")),
                       (("", "a", "b"), ("", "b", "ab"))):
            with self.subTest(papers=papers), self.assertRaises(BadPaper):
                check_paper(even_a().has, papers)

    def test_check_least_refuses_too_few_parted(self):
        papers = (("", "a"), ("b",))
        self.assertEqual(check_paper(ends_in_ab().has, papers), 2)
        with self.assertRaises(BadPaper):
            check_least(ends_in_ab(), ends_in_ab().has, papers)

    def test_check_least_refuses_words_not_parted(self):
        with self.assertRaises(BadPaper):
            check_least(even_a(), even_a().has, (("", "aa"), ("",)))

    def test_check_least_refuses_a_machine_that_does_not_agree(self):
        papers = paper(even_a())
        with self.assertRaises(BadPaper):
            check_least(turned(even_a()), even_a().has, papers)
        with self.assertRaises(BadPaper):
            check_least(Machine("ab", [[1, 1], [1, 1]], [True, False]), even_a().has, (("", "a"), ("", "a")))

    def test_what_is_handed_in_stays(self):
        papers = (["", "a", "ab"], ["", "b", "ab"])
        fewer_ends(ends_in_ab(), papers)
        self.assertEqual(papers, (["", "a", "ab"], ["", "b", "ab"]))


class Alike(unittest.TestCase):
    def wide(self):
        """Four states that are like the two of even_a()."""
        return Machine("ab", [[1, 2], [2, 3], [3, 0], [0, 1]], [True, False, True, False])

    def test_same_pairs_in_the_order_they_are_come_to(self):
        found = same_pairs(self.wide(), even_a())
        self.assertEqual(found, ((0, 0), (1, 1), (2, 0), (3, 1)))
        self.assertIsInstance(found, tuple)
        self.assertEqual(same_pairs(no_words("ab"), no_words("ab")), ((0, 0),))

    def test_same_pairs_are_taken(self):
        for machine in list(all_machines(2)) + list(some_machines(60, 7)):
            small = least(machine)
            self.assertIs(check_same(machine, small, same_pairs(machine, small)), True)
            self.assertIs(check_same(small, machine, list(same_pairs(small, machine))), True)

    def test_same_pairs_refuses_machines_that_are_not_alike(self):
        for other in (turned(even_a()), no_words("ab"), no_words("a"), no_words("abc")):
            with self.assertRaises(BadPaper):
                same_pairs(even_a(), other)

    def test_check_same_refuses_where_the_first_pair_is_not_there(self):
        for pairs in ((), ((1, 1),), ((1, 1), (2, 0), (3, 1))):
            with self.assertRaises(BadPaper):
                check_same(self.wide(), even_a(), pairs)

    def test_check_same_refuses_unlike_pairs(self):
        with self.assertRaises(BadPaper):
            check_same(no_words("ab"), turned(no_words("ab")), ((0, 0),))
        with self.assertRaises(BadPaper):
            check_same(self.wide(), even_a(), ((0, 0), (1, 1), (2, 0), (3, 1), (0, 1)))

    def test_check_same_refuses_states_that_are_not_there(self):
        for pair in ((4, 0), (0, 2), (-1, 1), (3, -1)):
            with self.subTest(pair=pair), self.assertRaises(BadPaper):
                check_same(self.wide(), even_a(), ((0, 0), (1, 1), (2, 0), (3, 1), pair))

    def test_check_same_refuses_pairs_that_are_not_closed(self):
        for pairs in (((0, 0),), ((0, 0), (1, 1)), ((0, 0), (1, 1), (2, 0))):
            with self.subTest(pairs=pairs), self.assertRaises(BadPaper):
                check_same(self.wide(), even_a(), pairs)

    def test_no_paper_shows_machines_of_other_letters_alike(self):
        for one, other in ((no_words("a"), no_words("ab")), (no_words("ab"), no_words("a"))):
            with self.assertRaises(BadPaper):
                check_same(one, other, ((0, 0),))

    def test_letters_in_another_order_are_the_same_letters(self):
        turned_columns = Machine("ba", [[0, 1], [1, 0]], [True, False])
        for one, other in ((even_a(), turned_columns), (turned_columns, even_a())):
            self.assertIs(check_same(one, other, ((0, 0), (1, 1))), True)
            with self.assertRaises(BadPaper):
                check_same(one, other, ((0, 0), (1, 1), (0, 1)))


class Fewer(unittest.TestCase):
    def test_the_last_first(self):
        machine = even_a()
        self.assertEqual(fewer_ends(machine, (("", "a"), ("", "b", "a"))), (("", "a"), ("",)))
        self.assertEqual(fewer_ends(machine, (("", "a"), ("b", "", "a"))), (("", "a"), ("b",)))

    def test_one_that_is_needed_stays_and_the_next_is_tried(self):
        self.assertEqual(
            fewer_ends(ends_in_ab(), (["", "a", "ab"], ["", "ab", "aab", "b"])), (("", "a", "ab"), ("", "b")))
        self.assertEqual(
            fewer_ends(ends_in_ab(), (["", "a", "ab"], ["b", "ab", "aab", ""])), (("", "a", "ab"), ("b", "")))

    def test_gives_tuples(self):
        found = fewer_ends(even_a(), (["", "a"], [""]))
        self.assertIsInstance(found, tuple)
        self.assertEqual([isinstance(part, tuple) for part in found], [True, True])

    def test_one_word_needs_no_ends(self):
        self.assertEqual(fewer_ends(even_a(), (("",), ("", "a"))), (("",), ()))

    def test_words_not_parted_keep_all_ends(self):
        self.assertEqual(fewer_ends(even_a(), (("", "aa"), ("", "a"))), (("", "aa"), ("", "a")))

    def test_what_is_left_still_parts_and_needs_each_end(self):
        for machine in some_machines(60, 8):
            papers = fewer_ends(machine, paper(machine))
            self.assertEqual(check_paper(machine.has, papers), least(machine).size())
            words, ends = papers
            for place in range(len(ends)):
                with self.assertRaises(BadPaper):
                    check_paper(machine.has, (words, ends[:place] + ends[place + 1:]))


if __name__ == "__main__":
    unittest.main()
