import unittest
from itertools import product

from lessonwright.boughs import best, depth, has, size
from lessonwright.chances import Counts, counted
from lessonwright.desks import (
    BASE, FIGURES, WIDE, Desk, answer_of, done_again, figure_of, lines_of, number, point_of, said, told_ladder,
    told_tree)
from lessonwright.errors import BadExample, BadSize, BadStore, BadText, NoSuch
from lessonwright.ladders import Ladder
from makers import Steps, is_tuples

EITHER = ("open 2", "see 00 no", "see 01 yes", "see 10 yes", "see 11 no")
ASKS = ("tree", "size", "flat", "ladder", "ask 00", "ask 01", "ask 10", "ask 11", "likely 00", "likely 10")


def told(*lines):
    desk = Desk()
    for line in lines:
        desk.say(line)
    return desk


def state(desk):
    """All that a desk holds, to be compared."""
    return desk.many, dict(desk.examples), desk.counts.shown(), desk.counts.many, desk.text, desk.lines


def row_of(place, line):
    """A row as it is written, told anew."""
    body = str(place) + " " + line
    plain, weighed = 0, 0
    for at, sign in enumerate(body):
        plain += ord(sign)
        weighed += ord(sign) * (at + 1)
    return body + " " + str(plain % 2000003 * 9973 + weighed % 9973) + "\n"


def text_of(*lines):
    return "".join(row_of(place, line) for place, line in enumerate(lines))


def some_lines(count, seed=1):
    """Some lines for a desk, many of which are refused."""
    steps = Steps(seed)
    words = ["0", "1", "00", "01", "10", "11", "000", "011", "101", "0x", "2", "3", "9", "123", "yes", "no", "maybe"]
    found = ["open 2"]
    for _ in range(count):
        kind = steps.below(12)
        if kind < 6:
            found.append(f"see {words[2 + steps.below(4)]} {('yes', 'no')[steps.below(2)]}")
        elif kind < 8:
            found.append(f"drop {words[2 + steps.below(4)]}")
        elif kind == 8:
            found.append(f"open {words[steps.below(len(words))]}")
        elif kind == 9:
            found.append(ASKS[steps.below(len(ASKS))])
        else:
            kinds = ("open", "see", "drop", "ask", "likely", "tree", "size", "flat", "ladder", "go", "")
            found.append(" ".join([kinds[steps.below(len(kinds))]] + [
                words[steps.below(len(words))] for _ in range(steps.below(3))]))
    return found


class Words(unittest.TestCase):
    def test_names(self):
        self.assertEqual((FIGURES, BASE, WIDE), ("0123456789", 9973, 2000003))

    def test_number(self):
        self.assertEqual([number(word) for word in ("0", "7", "07", "42", "99")], [0, 7, 7, 42, 99])
        for word in ("", "100", "000", "a", "1a", "a1", "-1", " 1", "1 ", "+1", "1.", "\u0663", "\u00b2"):
            with self.subTest(word=word), self.assertRaises(BadText):
                number(word)

    def test_point_of(self):
        self.assertEqual((point_of("010", 3), point_of("", 0)), ((0, 1, 0), ()))
        self.assertTrue(is_tuples(point_of("01", 2)))
        for word in ("012", "0a1", "x", "-10", "0 1"):
            with self.subTest(word=word), self.assertRaises(BadText):
                point_of(word, 3)
        for word in ("", "01", "0101"):
            with self.assertRaises(BadExample):
                point_of(word, 3)

    def test_answers(self):
        self.assertIs(answer_of("yes"), True)
        self.assertIs(answer_of("no"), False)
        for word in ("", "Yes", "true", "yesno", "none", "ye"):
            with self.assertRaises(BadText):
                answer_of(word)
        self.assertEqual((said(True), said(False)), ("yes", "no"))

    def test_told_tree(self):
        self.assertEqual((told_tree(True), told_tree(False)), ("yes", "no"))
        self.assertEqual(told_tree((1, False, True)), "1(no yes)")
        self.assertEqual(told_tree((0, (1, False, True), (2, True, (1, True, False)))), "0(1(no yes) 2(yes 1(yes no)))")

    def test_told_ladder(self):
        self.assertEqual(told_ladder(Ladder([], True)), "yes")
        self.assertEqual(told_ladder(Ladder([(0, 1, True)], False)), "0=1 yes, no")
        self.assertEqual(told_ladder(Ladder([(2, 0, False), (0, 1, True)], True)), "2=0 no, 0=1 yes, yes")

    def test_figure_of(self):
        self.assertEqual(figure_of(""), 0)
        self.assertEqual(figure_of("a"), 97 * 9973 + 97)
        self.assertEqual(figure_of("ab"), 195 * 9973 + 97 + 2 * 98)
        self.assertEqual(row_of(0, "open 2"), f"0 open 2 {figure_of('0 open 2')}\n")
        # Both sums begin again: the plain one past two millions, the weighed one past some thousands.
        self.assertEqual(figure_of("z" * 100), 12200 * 9973 + 122 * 5050 % 9973)
        self.assertEqual(figure_of("~" * 20000), 126 * 20000 % 2000003 * 9973 + 126 * 20000 * 20001 // 2 % 9973)
        self.assertNotEqual(figure_of("ab"), figure_of("ba"))


class Saying(unittest.TestCase):
    def test_fields(self):
        desk = Desk()
        self.assertEqual((desk.many, desk.examples, desk.text, desk.lines), (None, {}, "", 0))
        self.assertIsInstance(desk.counts, Counts)
        self.assertEqual(desk.counts.shown(), ())

    def test_lines_that_do(self):
        desk = Desk()
        self.assertEqual([desk.say(line) for line in EITHER], ["", "no", "no", "no", "yes"])
        self.assertEqual(desk.examples, {(0, 0): False, (0, 1): True, (1, 0): True, (1, 1): False})
        self.assertIsInstance(desk.examples, dict)
        self.assertEqual(desk.counts.shown(), ((False, 2, (1, 1)), (True, 2, (1, 1))))
        self.assertEqual(desk.say("drop 11"), "")
        self.assertEqual(desk.counts.shown(), ((False, 1, (0, 0)), (True, 2, (1, 1))))
        self.assertEqual(desk.text, text_of(*EITHER, "drop 11"))
        self.assertEqual(desk.lines, 6)

    def test_see_answers_what_the_tree_said_ahead(self):
        desk = told("open 1")
        self.assertEqual([desk.say(line) for line in ("see 1 yes", "see 0 no", "see 0 no", "see 1 yes")],
                         ["no", "yes", "no", "yes"])

    def test_lines_that_ask(self):
        desk = told(*EITHER)
        text = desk.text
        self.assertEqual([desk.say(line) for line in ASKS], [
            "0(1(no yes) 1(yes no))", "3", "2", "none: 4", "no", "yes", "yes", "no", "no", "no"])
        desk.say("drop 11")
        self.assertEqual([desk.say(line) for line in ASKS], [
            "0(1(no yes) yes)", "2", "2", "0=1 yes, 1=0 no, yes", "no", "yes", "yes", "yes", "yes", "yes"])
        self.assertEqual((desk.text, desk.lines), (text + row_of(5, "drop 11"), 6))

    def test_size_is_the_smallest_trees_and_flat_is_the_flattest_trees_depth(self):
        steps = Steps(5)
        unlike = 0
        for _ in range(30):
            points = [(point, steps.below(2) == 1) for point in product((0, 1), repeat=4) if steps.below(3)]
            desk = told("open 4", *[f"see {''.join(map(str, point))} {said(take)}" for point, take in points])
            small, flat = best(points, 4), best(points, 4, True)
            self.assertEqual((desk.say("tree"), desk.say("size"), desk.say("flat")),
                             (told_tree(small), str(size(small)), str(depth(flat))))
            unlike += depth(small) != depth(flat)
        self.assertGreater(unlike, 0)

    def test_nothing_told_at_all(self):
        desk = told("open 2")
        self.assertEqual([desk.say(line) for line in ("tree", "size", "flat", "ladder", "ask 01")],
                         ["no", "0", "0", "no", "no"])
        self.assertEqual(desk.say("likely 01"), "error: size")
        desk.say("see 01 yes")
        desk.say("drop 01")
        self.assertEqual((desk.say("likely 01"), desk.say("tree")), ("error: size", "no"))

    def test_no_places_at_all(self):
        desk = told("open 0")
        self.assertEqual([desk.say(line) for line in ("tree", "size", "flat", "ladder")], ["no", "0", "0", "no"])

    def test_opened_again(self):
        desk = told(*EITHER)
        self.assertEqual(desk.say("open 3"), "")
        self.assertEqual((desk.many, desk.examples, desk.counts.shown(), desk.counts.many), (3, {}, (), 3))
        self.assertEqual(desk.say("see 110 yes"), "no")
        self.assertEqual((desk.text, desk.lines), (text_of(*EITHER, "open 3", "see 110 yes"), 7))

    def test_told_again_is_written_and_counted_once(self):
        desk = told("open 2", "see 01 yes", "see 01 yes")
        self.assertEqual((desk.text, desk.lines), (text_of("open 2", "see 01 yes", "see 01 yes"), 3))
        self.assertEqual((desk.examples, desk.counts.shown()), ({(0, 1): True}, ((True, 1, (0, 1)),)))
        self.assertEqual((desk.say("drop 01"), desk.counts.shown()), ("", ()))

    def test_blanks_about_words(self):
        desk = told("  open   2 ", " see  01   yes")
        self.assertEqual(desk.text, text_of("open 2", "see 01 yes"))
        self.assertEqual((desk.say("  tree "), desk.say(" ask   01")), ("yes", "yes"))

    def test_up_to_eight_places(self):
        self.assertEqual([told().say(f"open {many}") for many in range(9)], [""] * 9)
        desk = told("open 08")
        self.assertEqual((desk.many, desk.text), (8, text_of("open 08")))
        self.assertEqual(desk.say("see 01010101 yes"), "no")
        self.assertEqual([desk.say(line) for line in ("open 9", "open 10", "open 99")], ["error: size"] * 3)
        self.assertEqual(desk.many, 8)


class Refused(unittest.TestCase):
    def refuse(self, desk, line, answer):
        ahead = state(desk)
        with self.subTest(line=line):
            self.assertEqual(desk.say(line), answer)
            self.assertEqual(state(desk), ahead)

    def test_ahead_of_open(self):
        for line in ("see 01 yes", "drop 01", "ask 01", "likely 01", "tree", "size", "flat", "ladder", "see 0x yes",
                     "see 01 maybe", "ask x", "likely 2", "drop x"):
            self.refuse(Desk(), line, "error: no such")

    def test_text(self):
        for desk in (Desk(), told("open 2", "see 01 yes")):
            for line in ("", "   ", "go", "openn 2", "Open 2", "open", "open 2 3", "open x", "open 123", "open 002",
                         "open -1", "see", "see 01", "see 01 yes no", "drop", "drop 01 yes", "ask", "ask 01 10",
                         "likely", "likely 01 10", "tree 1", "size 2", "flat 0", "ladder 0", "error: text", "2 open"):
                self.refuse(desk, line, "error: text")
        for line in ("see 0x yes", "see 02 yes", "see 01 maybe", "see 00 Yes", "drop 0x", "ask 2", "likely 1-",
                     "see x1 perhaps"):
            self.refuse(told("open 2", "see 01 yes"), line, "error: text")

    def test_example(self):
        for line in ("see 01 no", "see 0 yes", "see 011 yes", "drop 0", "drop 000", "ask 1", "ask 111", "likely 1",
                     "likely 111"):
            self.refuse(told("open 2", "see 01 yes"), line, "error: example")

    def test_size(self):
        for line in ("open 9", "open 99"):
            for desk in (Desk(), told("open 2", "see 01 yes")):
                self.refuse(desk, line, "error: size")

    def test_no_such(self):
        self.refuse(told("open 2", "see 01 yes"), "drop 11", "error: no such")
        self.refuse(told("open 2", "see 01 yes", "drop 01"), "drop 01", "error: no such")
        self.refuse(told("open 2", "see 01 yes", "open 2"), "drop 01", "error: no such")

    def test_told_the_other_way_after_it_is_dropped(self):
        desk = told("open 2", "see 01 yes", "drop 01")
        self.assertEqual(desk.say("see 01 no"), "no")
        self.refuse(desk, "see 01 yes", "error: example")

    def test_do_raises_what_say_tells(self):
        for desk, line, error in (
                (Desk(), "", BadText), (Desk(), "go", BadText), (Desk(), "open 123", BadText),
                (Desk(), "open 9", BadSize), (Desk(), "tree", NoSuch), (Desk(), "size", NoSuch),
                (Desk(), "flat", NoSuch), (Desk(), "ladder", NoSuch), (Desk(), "ask 0", NoSuch),
                (Desk(), "see 0 yes", NoSuch), (told("open 1"), "see 0 maybe", BadText),
                (told("open 1"), "see 00 yes", BadExample), (told("open 1", "see 0 yes"), "see 0 no", BadExample),
                (told("open 1"), "drop 0", NoSuch), (told("open 1"), "likely 0", BadSize)):
            with self.subTest(line=line), self.assertRaises(error):
                desk.do(line)
        self.assertEqual((told("open 1").do("see 1 yes"), Desk().do("open 3")), ("no", ""))

    def test_each_refused_line_leaves_the_desk_as_it_was(self):
        kinds = {}
        for seed in range(1, 9):
            desk = Desk()
            for line in some_lines(60, seed):
                ahead = state(desk)
                answer = desk.say(line)
                if answer.startswith("error: "):
                    kinds[answer] = True
                    self.assertEqual(state(desk), ahead)
                else:
                    first = line.split()[0]
                    self.assertEqual(desk.lines, ahead[5] + (first in ("open", "see", "drop")))
                # Counts are right anew after each line.
                self.assertEqual(desk.counts.shown(), counted(desk.examples.items(), desk.counts.many).shown())
                self.assertEqual(len(lines_of(desk.text)), desk.lines)
        self.assertEqual(sorted(kinds), ["error: example", "error: no such", "error: size", "error: text"])


class Parts(unittest.TestCase):
    def test_ahead_of_begin(self):
        desk = Desk()
        for asked in (desk.places, desk.in_order, desk.smallest, lambda: desk.here("01"),
                      lambda: desk.see((0, 1), True), lambda: desk.drop((0, 1))):
            with self.assertRaises(NoSuch):
                asked()

    def test_begin(self):
        desk = Desk()
        self.assertIsNone(desk.begin(2))
        self.assertEqual((desk.places(), desk.in_order(), desk.smallest()), (2, [], False))
        self.assertEqual((desk.text, desk.lines), ("", 0))
        with self.assertRaises(BadSize):
            desk.begin(9)
        self.assertEqual(desk.places(), 2)

    def test_here(self):
        desk = told("open 2")
        self.assertEqual(desk.here("01"), (0, 1))
        self.assertTrue(is_tuples(desk.here("01")))
        with self.assertRaises(BadExample):
            desk.here("011")
        with self.assertRaises(BadText):
            desk.here("0x")

    def test_see_and_drop(self):
        desk = told("open 2")
        self.assertIs(desk.see([1, 0], True), False)
        self.assertIs(desk.see((0, 0), True), True)
        self.assertEqual(desk.in_order(), [((0, 0), True), ((1, 0), True)])
        self.assertIsInstance(desk.in_order(), list)
        self.assertIs(desk.smallest(), True)
        self.assertIsNone(desk.drop([1, 0]))
        self.assertEqual(desk.in_order(), [((0, 0), True)])
        # Only what is said is written.
        self.assertEqual(desk.text, text_of("open 2"))

    def test_refused_changes_nothing(self):
        desk = told("open 2", "see 01 yes")
        ahead = state(desk)
        for asked, error in ((lambda: desk.see((0, 1), False), BadExample), (lambda: desk.see((0,), True), BadExample),
                             (lambda: desk.see((0, 2), True), BadExample), (lambda: desk.drop((1, 1)), NoSuch),
                             (lambda: desk.begin(9), BadSize)):
            with self.assertRaises(error):
                asked()
            self.assertEqual(state(desk), ahead)

    def test_smallest(self):
        desk = told("open 2", "see 00 no", "see 11 yes")
        self.assertEqual(desk.smallest(), (0, False, True))

    def test_written(self):
        desk = Desk()
        self.assertEqual(desk.written(["open", "2"], "what is told"), "what is told")
        self.assertEqual(desk.written(("drop", "01"), ""), "")
        self.assertEqual((desk.text, desk.lines), (text_of("open 2", "drop 01"), 2))


class Again(unittest.TestCase):
    def setUp(self):
        self.lines = EITHER + ("drop 11", "see 11 yes", "see 11 yes", "open 1", "see 1 yes")
        self.text = told(*self.lines).text

    def test_lines_of(self):
        self.assertEqual(lines_of(""), ())
        self.assertEqual(lines_of(self.text), self.lines)
        self.assertEqual(lines_of(text_of("tree", "  what  ever ", "")), ("tree", "  what  ever ", ""))
        self.assertTrue(is_tuples(lines_of(self.text)))

    def test_numbers_of_two_figures(self):
        lines = ["open 1"] + ["see 1 yes"] * 11
        desk = told(*lines)
        self.assertEqual(desk.text.split("\n")[11].split(" ")[0], "11")
        self.assertEqual((desk.lines, lines_of(desk.text)), (12, tuple(lines)))

    def test_done_again(self):
        for lines in (self.lines, EITHER, ("open 3",), ()):
            desk = done_again(told(*lines).text)
            self.assertEqual(state(desk), state(told(*lines)))
            self.assertEqual([desk.say(line) for line in ASKS], [told(*lines).say(line) for line in ASKS])

    def test_answers_alike_on_many_lines(self):
        for seed in range(20, 28):
            desk = Desk()
            for place, line in enumerate(some_lines(50, seed)):
                desk.say(line)
                if place % 9 == 0:
                    other = done_again(desk.text)
                    self.assertEqual(state(other), state(desk))
                    for ask in ASKS + ("see 01 yes", "drop 01", "see 10 no"):
                        self.assertEqual(other.say(ask), desk.say(ask))
                    self.assertEqual(state(other), state(desk))

    def test_cut_anywhere(self):
        ends = [place + 1 for place, sign in enumerate(self.text) if sign == "\n"]
        for cut in range(len(self.text) + 1):
            whole = len([end for end in ends if end <= cut])
            self.assertEqual(lines_of(self.text[:cut]), self.lines[:whole])
            desk = done_again(self.text[:cut])
            self.assertEqual(state(desk), state(told(*self.lines[:whole])))
            self.assertEqual(desk.text, self.text[:ends[whole - 1] if whole else 0])

    def test_a_rows_end_left_out(self):
        ends = [place for place, sign in enumerate(self.text) if sign == "\n"]
        for end in ends[:-1]:
            for asked in (lines_of, done_again):
                with self.assertRaises(BadStore):
                    asked(self.text[:end] + self.text[end + 1:])
        self.assertEqual(lines_of(self.text[:-1]), self.lines[:-1])

    def test_any_sign_changed_or_left_out(self):
        for place, sign in enumerate(self.text[:-1]):
            for other in ("0", "1", "7", "x", " ", ""):
                if other != sign and sign != "\n":
                    text = self.text[:place] + other + self.text[place + 1:]
                    with self.subTest(place=place, other=other):
                        for asked in (lines_of, done_again):
                            with self.assertRaises(BadStore):
                                asked(text)

    def test_rows_changed(self):
        rows = [row + "\n" for row in self.text.split("\n")[:-1]]
        for text in (rows[1] + rows[0], rows[0] + rows[2], rows[0] + rows[0], rows[1], "\n" + self.text,
                     self.text + "\n", self.text.replace("\n", "\n\n"), self.text.replace(" ", "  "), " " + self.text,
                     "0\n", "0 \n", "what\n", rows[0][:-1] + " \n", rows[0].replace("0 open", "00 open"),
                     "0  " + str(figure_of("0 ")) + "0\n"):
            with self.subTest(text=text[:30]):
                for asked in (lines_of, done_again):
                    with self.assertRaises(BadStore):
                        asked(text)

    def test_lines_that_can_not_be(self):
        for lines in (("see 01 yes",), ("open 9",), ("open 2", "drop 01"), ("open 2", "see 01 yes", "see 01 no"),
                      ("open 2", "see 0 yes"), ("open 2", "go"), ("open 2", ""), ("open 2", "see 01 maybe"),
                      # Lines that only ask are not written, nor are blanks about words.
                      ("open 2", "tree"), ("open 2", "ask 01"), ("open  2",), ("open 2 ",), ("open 2", " see 01 yes")):
            text = text_of(*lines)
            self.assertEqual(lines_of(text), lines)
            with self.subTest(lines=lines), self.assertRaises(BadStore):
                done_again(text)

    def test_goes_on_behind_a_cut(self):
        desk = done_again(self.text[:-5])
        desk.say(self.lines[-1])
        self.assertEqual(desk.text, self.text)


class Asked(unittest.TestCase):
    def test_ask_is_the_trees_and_likely_the_counts(self):
        steps = Steps(3)
        unlike = 0
        for _ in range(25):
            points = {tuple(steps.below(2) for _ in range(3)): steps.below(2) == 1 for _ in range(5)}
            desk = told("open 3", *[f"see {''.join(map(str, point))} {said(take)}" for point, take in points.items()])
            for point in product((0, 1), repeat=3):
                word = "".join(map(str, point))
                tree = has(best(list(points.items()), 3), point)
                likely = counted(points.items(), 3).likeliest(point)
                self.assertEqual((desk.say("ask " + word), desk.say("likely " + word)), (said(tree), said(likely)))
                unlike += tree != likely
        self.assertGreater(unlike, 0)


if __name__ == "__main__":
    unittest.main()
