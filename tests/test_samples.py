import unittest
from itertools import product

from lessonwright.errors import BadExample, BadMachine, BadSize, BadWord
from lessonwright.machines import Machine
from lessonwright.samples import Merge, least_agreeing, merged, placed, search, with_takes
from lessonwright.teachers import agrees, from_examples
from makers import Steps, ends_in_ab, even_a, some_machines, words_up_to


def some_tables(count, letters="ab", most=4, seed=3):
    """Some tables of a few words told."""
    steps = Steps(seed)
    words = words_up_to(letters, most)
    for _ in range(count):
        yield {words[steps.below(len(words))]: steps.below(2) == 1 for _ in range(steps.below(9))}


class States(unittest.TestCase):
    def test_fields(self):
        merge = Merge("ab", {"ba": True, "a": False})
        self.assertEqual(merge.letters, "ab")
        self.assertEqual(merge.words, ("", "a", "b", "ba"))
        self.assertIsInstance(merge.words, tuple)
        self.assertEqual(merge.owner, {"": "", "a": "a", "b": "b", "ba": "ba"})
        self.assertEqual(merge.told, {"ba": True, "a": False})

    def test_bare_word_is_there_where_none_is_told(self):
        self.assertEqual(Merge("ab", {}).words, ("",))

    def test_what_is_handed_in_stays(self):
        table = {"": True, "a": True, "aa": True}
        merge = Merge("ab", table)
        merge.put_together("", "a")
        merged("ab", table)
        least_agreeing("ab", table)
        self.assertEqual(table, {"": True, "a": True, "aa": True})

    def test_root_and_put_together(self):
        merge = Merge("ab", {"a": True, "b": True})
        self.assertEqual(merge.root("b"), "b")
        self.assertIs(merge.put_together("b", "a"), True)
        self.assertEqual([merge.root(word) for word in merge.words], ["", "a", "a"])
        self.assertIs(merge.told[merge.root("b")], True)

    def test_what_they_lead_to_is_put_together_too(self):
        merge = Merge("ab", {"aab": True, "bab": True, "": False})
        self.assertIs(merge.put_together("a", "b"), True)
        self.assertEqual([merge.root(word) for word in ("aa", "ba", "bab", "aab")], ["aa", "aa", "aab", "aab"])

    def test_a_state_put_together_with_what_it_leads_to(self):
        merge = Merge("a", {"aaa": True})
        self.assertIs(merge.put_together("", "a"), True)
        self.assertEqual([merge.root(word) for word in merge.words], ["", "", "", ""])
        self.assertIs(merge.told[""], True)

    def test_put_together_gainsaid(self):
        merge = Merge("a", {"": False, "a": True})
        self.assertIs(merge.put_together("", "a"), False)

    def test_put_together_gainsaid_by_what_they_lead_to(self):
        merge = Merge("ab", {"aa": True, "ba": False})
        self.assertIs(merge.put_together("a", "b"), False)

    def test_what_is_gainsaid_changes_nothing(self):
        merge = Merge("ab", {"ab": True, "bb": True, "aa": True, "ba": False})
        self.assertIs(merge.put_together("a", "b"), False)
        self.assertEqual([merge.root(word) for word in merge.words], list(merge.words))
        self.assertEqual(merge.told, {"ab": True, "bb": True, "aa": True, "ba": False})

    def test_put_together_with_itself(self):
        self.assertIs(Merge("a", {"a": True}).put_together("a", "a"), True)

    def test_long_words(self):
        merge = Merge("a", {"a" * 400: True})
        self.assertIs(merge.put_together("", "a"), True)
        self.assertEqual(merge.root("a" * 399), "")

    def test_copy_may_be_changed_by_itself(self):
        merge = Merge("ab", {"a": True, "b": True})
        other = merge.copy()
        self.assertEqual((other.letters, other.words, other.owner, other.told),
                         (merge.letters, merge.words, merge.owner, merge.told))
        other.put_together("a", "b")
        self.assertEqual(merge.root("b"), "b")
        self.assertEqual(other.root("b"), "a")
        merge.put_together("", "a")
        self.assertEqual(other.root("a"), "a")
        self.assertEqual(merge.copy().root("a"), "")

    def test_next_of(self):
        merge = Merge("ab", {"ab": True, "b": True})
        self.assertEqual(merge.next_of("a", "b"), "ab")
        self.assertIsNone(merge.next_of("a", "a"))
        merge.put_together("", "ab")
        self.assertEqual(merge.next_of("ab", "b"), "b")
        self.assertEqual(merge.next_of("ab", "a"), "a")
        self.assertEqual(merge.next_of("a", "b"), "")

    def test_machine_with_one_state_more_for_what_is_not_told(self):
        merge = Merge("ab", {"": True, "a": False})
        self.assertEqual(merge.machine().shown(), ("ab", ((1, 2), (2, 2), (2, 2)), (True, False, False)))

    def test_machine_without_it_where_all_is_told(self):
        merge = Merge("a", {"": True, "a": True})
        merge.put_together("", "a")
        self.assertEqual(merge.machine().shown(), ("a", ((0,),), (True,)))

    def test_placed_with_the_first_kept_one(self):
        merge = Merge("ab", {"": True, "a": False, "b": False})
        found = placed(merge, ["", "a"], "b")
        self.assertEqual(found.root("b"), "a")
        self.assertEqual(merge.root("b"), "b")
        self.assertEqual(placed(merge, ["a", ""], "b").root("b"), "a")

    def test_placed_nowhere_is_as_it_was(self):
        merge = Merge("ab", {"": True, "a": False})
        self.assertEqual(placed(merge, [""], "a").owner, merge.owner)
        self.assertEqual(placed(merge, [], "a").owner, merge.owner)


class Merged(unittest.TestCase):
    def test_no_words_told_takes_nothing(self):
        machine = merged("ab", {})
        self.assertEqual([machine.has(word) for word in words_up_to("ab", 3)], [False] * 15)

    def test_words_that_tell_all(self):
        for hidden in (ends_in_ab(), even_a()):
            table = {word: hidden.has(word) for word in words_up_to("ab", 4)}
            self.assertEqual(merged("ab", table).shown(), hidden.shown())

    def test_first_kept_one_that_nothing_gainsays(self):
        # "a" may be put together with "", and so is; "b" is gainsaid by "" and kept.
        machine = merged("ab", {"": False, "a": False, "b": True})
        self.assertEqual(machine.shown(), ("ab", ((0, 1), (2, 2), (2, 2)), (False, True, False)))

    def test_agrees_with_what_was_told(self):
        for table in some_tables(80):
            self.assertTrue(agrees(merged("ab", table), table))

    def test_only_yes_told(self):
        self.assertEqual(merged("a", {"aa": True}).shown(), ("a", ((0,),), (True,)))

    def test_words_told_once(self):
        with self.assertRaises(BadExample):
            merged("ab", from_examples("ab", [("a", True), ("a", False)]))


class Fewest(unittest.TestCase):
    def by_all(self, table, most, letters="ab"):
        """The first machine that agrees, by trying all rows in turn."""
        width = len(letters)
        for size in range(1, most + 1):
            for flat in product(range(size), repeat=size * width):
                rows = [flat[state * width:(state + 1) * width] for state in range(size)]
                found = with_takes(letters, table, rows)
                if found is not None:
                    return found
        return None

    def test_no_words_told(self):
        self.assertEqual(least_agreeing("ab", {}).shown(), ("ab", ((0, 0),), (False,)))

    def test_first_by_rows_of_the_fewest_states(self):
        for table in some_tables(60):
            first = self.by_all(table, 3)
            if first is None:
                with self.assertRaises(BadSize):
                    least_agreeing("ab", table, 3)
            else:
                self.assertEqual(least_agreeing("ab", table, 3).shown(), first.shown())

    def test_states_rise_as_they_come(self):
        for hidden in some_machines(30, 4, seed=9):
            table = {word: hidden.has(word) for word in words_up_to("ab", 5)}
            machine = least_agreeing("ab", table)
            self.assertTrue(agrees(machine, table))
            come = [0]
            for row in machine.rows:
                for state in row:
                    self.assertLessEqual(state, max(come) + 1)
                    come.append(state)

    def test_told_words_give_the_least_machine_back(self):
        table = {word: word.endswith("ab") for word in words_up_to("ab", 5)}
        self.assertEqual(least_agreeing("ab", table).shown(), ends_in_ab().shown())

    def test_what_is_not_told_is_not_taken(self):
        self.assertEqual(least_agreeing("ab", {"": True, "a": False}).shown(),
                         ("ab", ((1, 0), (0, 0)), (True, False)))
        self.assertEqual(search("ab", {"": True}, 2, [], []).shown(), ("ab", ((0, 0), (0, 0)), (True, False)))

    def test_refuses_too_many_states(self):
        fifth = {"a" * count: count == 4 for count in range(5)}
        with self.assertRaises(BadSize):
            least_agreeing("a", fifth)
        self.assertEqual(least_agreeing("a", fifth, 5).size(), 5)
        with self.assertRaises(BadSize):
            least_agreeing("a", {"": True, "a": False}, most=1)
        with self.assertRaises(BadSize):
            least_agreeing("a", {}, 0)

    def test_refuses_other_letters(self):
        with self.assertRaises(BadWord):
            least_agreeing("ab", {"ac": True})
        with self.assertRaises(BadWord):
            search("ab", {"c": True}, 1, [], [])
        with self.assertRaises(BadWord):
            with_takes("ab", {"c": True}, [[0, 0]])

    def test_search_none(self):
        self.assertIsNone(search("a", {"": True, "a": False}, 1, [], []))
        self.assertEqual(search("a", {"": True, "a": False}, 2, (), ()).shown(), ("a", ((1,), (0,)), (True, False)))

    def test_search_from_rows_and_takings_begun(self):
        self.assertEqual(search("ab", {}, 2, [1, 1], []).rows, [(1, 1), (0, 0)])
        self.assertEqual(search("ab", {"a": True}, 2, [0, 1], []).takes, (True, False))
        self.assertEqual(search("a", {}, 2, [], [False, True]).takes, (False, True))
        self.assertIsNone(search("a", {"": True}, 1, [], [False]))

    def test_search_refuses_no_states(self):
        with self.assertRaises(BadMachine):
            search("ab", {}, 0, [], [])

    def test_with_takes(self):
        rows = [[1, 0], [1, 2], [1, 0]]
        machine = with_takes("ab", {"": False, "ab": True, "bab": True}, rows)
        self.assertEqual(machine.shown(), ends_in_ab().shown())
        self.assertEqual(with_takes("ab", {}, rows).takes, (False, False, False))
        self.assertIsNone(with_takes("ab", {"b": True, "": False}, rows))

    def test_with_takes_refuses_rows_that_cannot_be(self):
        for rows in ([], [[0]], [[0, 1]], [[0, -1]]):
            with self.subTest(rows=rows), self.assertRaises(BadMachine):
                with_takes("ab", {}, rows)

    def test_machines_are_machines(self):
        self.assertIsInstance(merged("ab", {}), Machine)
        self.assertIsInstance(least_agreeing("ab", {}), Machine)


if __name__ == "__main__":
    unittest.main()
