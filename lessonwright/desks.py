"""Desks: lines said to a learner of points, answered, written down and done again."""

from lessonwright.boughs import best, depth, has, size
from lessonwright.chances import Counts
from lessonwright.errors import BadExample, BadFormula, BadSize, BadStore, BadText, LearnFault, NoSuch
from lessonwright.ladders import learned_ladder
from lessonwright.points import check_point

FIGURES = "0123456789"
BASE = 9973
WIDE = 2000003
MOST_PLACES = 8


def number(word):
    """Return the number of a word of one or two figures; BadText."""
    if not 0 < len(word) < 3 or word.strip(FIGURES) != "":
        raise BadText("no number of one or two figures")
    return int(word)


def point_of(word, many):
    """Return the point of a word of noughts and ones; BadText, BadExample."""
    if word.strip("01") != "":
        raise BadText("a sign that is neither nought nor one")
    return check_point([int(sign) for sign in word], many)


def answer_of(word):
    """Return True for "yes", False for "no"; BadText."""
    if word not in ("yes", "no"):
        raise BadText("an answer that is neither yes nor no")
    return word == "yes"


def said(answer):
    """Return an answer as it is written."""
    return "yes" if answer else "no"


def told_tree(tree):
    """Return a tree as it is written: an answer, or a place and both sides in brackets."""
    if isinstance(tree, bool):
        return said(tree)
    place, low, high = tree
    return f"{place}({told_tree(low)} {told_tree(high)})"


def told_ladder(ladder):
    """Return a ladder as it is written: place, bit and answer for each step, then the last answer."""
    steps = [f"{place}={bit} {said(answer)}" for place, bit, answer in ladder.steps]
    return ", ".join([*steps, said(ladder.last)])


def figure_of(text):
    """Return a text's figure: its signs' numbers added up, then weighed by their places from one on."""
    numbers = [ord(sign) for sign in text]
    weighed = sum([place * one for place, one in enumerate(numbers, start=1)])
    return sum(numbers) % WIDE * BASE + weighed % BASE


class Desk:
    """So many places, the examples by points, their counts, and the text of what was done."""

    def __init__(self):
        self.many = None
        self.examples = {}
        self.counts = Counts(0)
        self.text = ""
        self.lines = 0

    def say(self, line):
        """Do or answer a line; return the answer, "error: ..." for what is refused."""
        try:
            return self.do(line)
        except BadText:
            return "error: text"
        except BadExample:
            return "error: example"
        except BadFormula:
            return "error: formula"
        except BadSize:
            return "error: size"
        except NoSuch:
            return "error: no such"

    def do(self, line):
        """Do or answer a line by its first word; what changes something is written down; BadText."""
        words = line.split()
        if words == []:
            raise BadText("a bare line")
        kind = (words[0], len(words))
        if kind == ("open", 2):
            self.begin(number(words[1]))
            return self.written(words, "")
        if kind == ("see", 3):
            guess = self.see(self.here(words[1]), answer_of(words[2]))
            return self.written(words, said(guess))
        if kind == ("drop", 2):
            self.drop(self.here(words[1]))
            return self.written(words, "")
        if kind == ("ask", 2):
            return said(has(self.smallest(), self.here(words[1])))
        if kind == ("likely", 2):
            return said(self.counts.likeliest(self.here(words[1])))
        return self.answer_whole(words)

    def answer_whole(self, words):
        """Answer a line that asks about all examples; BadText for no line."""
        if words == ["tree"]:
            return told_tree(self.smallest())
        if words == ["size"]:
            return str(size(self.smallest()))
        if words == ["flat"]:
            return str(depth(best(self.in_order(), self.places(), True)))
        if words == ["ladder"]:
            ladder, points = learned_ladder(self.in_order(), self.places())
            return f"none: {len(points)}" if ladder is None else told_ladder(ladder)
        raise BadText("no line")

    def places(self):
        """Return how many places there are; NoSuch for none."""
        if self.many is None:
            raise NoSuch("no places yet")
        return self.many

    def here(self, word):
        """Return the point of a word."""
        return point_of(word, self.places())

    def in_order(self):
        """Return the examples, in order."""
        self.places()
        return sorted(self.examples.items())

    def smallest(self):
        """Return the smallest tree that agrees."""
        return best(self.in_order(), self.places())

    def begin(self, many):
        """Begin anew with so many places, eight at most; BadSize."""
        if many > MOST_PLACES:
            raise BadSize("too many places")
        self.many = many
        self.examples = {}
        self.counts = Counts(many)

    def see(self, point, answer):
        """Take an example in; return what the tree said ahead of it; BadExample for a point told the other way."""
        told = check_point(point, self.places())
        if self.examples.get(told, answer) != answer:
            raise BadExample("a point told the other way")
        guess = has(self.smallest(), told)
        # One told again is counted once.
        if told not in self.examples:
            self.counts.put(told, answer)
            self.examples[told] = answer
        return guess

    def drop(self, point):
        """Forget an example; NoSuch."""
        told = tuple(point)
        if told not in self.examples:
            raise NoSuch("a point that is not told")
        self.counts.take(told, self.examples[told])
        del self.examples[told]

    def written(self, words, answer):
        """Write a done line with its number and figure; return the answer."""
        body = " ".join([str(self.lines), *words])
        self.text += f"{body} {figure_of(body)}\n"
        self.lines += 1
        return answer


def lines_of(text):
    """Return the lines of a written text, a row without an end left out; BadStore."""
    found = []
    for place, row in enumerate(text.split("\n")[:-1]):
        body, _, figure = row.rpartition(" ")
        head, _, line = body.partition(" ")
        if head != str(place) or figure != str(figure_of(body)):
            raise BadStore("a row that is not whole")
        found.append(line)
    return tuple(found)


def done_again(text):
    """Return the desk that a text's lines make from nothing; BadStore for what can't be."""
    desk = Desk()
    for line in lines_of(text):
        try:
            desk.do(line)
        except LearnFault:
            raise BadStore("a line that can not be done") from None
    # A line that only asks is never written, nor one in other words than it was written in.
    if desk.text != text[:text.rfind("\n") + 1]:
        raise BadStore("a text that no desk writes")
    return desk
