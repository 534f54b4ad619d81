"""Halves: learners over a told lot of rules: by what most of them say, and with the fewest mistakes that can be."""

from lessonwright.errors import BadExample, BadPaper, BadSize


def check_rules(rules):
    """Return rules, rows of answers for the same questions, each once, in order; BadSize for none or unlike lengths."""
    found = sorted({tuple(rule): True for rule in rules})
    if found == [] or found[0] == () or any(len(rule) != len(found[0]) for rule in found):
        raise BadSize("no rules, no questions, or rules of unlike lengths")
    return found


def kept(rules, question, answer):
    """Return the rules that give a question an answer."""
    return [rule for rule in rules if rule[question] == answer]


class Halving:
    """The rules that agree so far, and the mistakes made."""

    def __init__(self, rules):
        self.rules = check_rules(rules)
        self.mistakes = 0

    def guess(self, question):
        """Return what most rules say; for as many, True."""
        return 2 * len(kept(self.rules, question, True)) >= len(self.rules)

    def see(self, question, answer):
        """Guess a question, then keep the rules that are right; return the guess; BadExample where none is."""
        return tell(self, question, answer)


def tell(learner, question, answer):
    """Return what a learner guesses; its rules that are right are left, and a wrong guess is counted."""
    left = kept(learner.rules, question, answer)
    if left == []:
        raise BadExample("no rule agrees")
    guess = learner.guess(question)
    learner.rules = left
    if guess != answer:
        learner.mistakes += 1
    return guess


def most_halvings(many):
    """Return the most mistakes of the halving learner over so many rules: how often they can be halved."""
    count = 0
    left = many
    while left > 1:
        left //= 2
        count += 1
    return count


def fewest(rules):
    """Return the fewest mistakes that any learner can be held to over rules, whatever is asked and answered."""
    return fewest_of(check_rules(rules), {})


def fewest_of(rules, found):
    """Return the fewest mistakes over rules, by those of their parts."""
    lot = tuple(rules)
    if lot not in found:
        most = 0
        for _, low, high in parting_sides(rules):
            # A question holds a learner to one mistake more than its easier side does; where the smaller side can't be
            # hard enough by its count alone, neither side is looked at.
            if most_halvings(min(len(low), len(high))) >= most:
                most = max(most, 1 + min(fewest_of(low, found), fewest_of(high, found)))
        found[lot] = most
    return found[lot]


def parting_sides(rules):
    """Return (question, rules for False, rules for True) for each question that rules answer both ways."""
    found = []
    for question in range(len(rules[0])):
        low = kept(rules, question, False)
        high = kept(rules, question, True)
        if low != [] and high != []:
            found.append((question, low, high))
    return found


class Careful:
    """The learner that makes the fewest mistakes: it says what leaves the harder part if it is wrong."""

    def __init__(self, rules):
        self.rules = check_rules(rules)
        self.mistakes = 0

    def guess(self, question):
        """Return the answer whose rules are harder; the only one left, if one is; for alike ones True."""
        low = kept(self.rules, question, False)
        high = kept(self.rules, question, True)
        if low == [] or high == []:
            return low == []
        return fewest(high) >= fewest(low)

    def see(self, question, answer):
        """Guess a question, then keep the rules that are right; return the guess; BadExample where none is."""
        return tell(self, question, answer)


def hard_tree(rules, depth):
    """Return a tree, a rule or (question, tree for False, tree for True), all ways so deep; BadSize for none."""
    rows = check_rules(rules)
    if not 0 <= depth <= fewest(rows):
        raise BadSize("rules that are not so hard")
    return grown_hard(rows, depth)


def grown_hard(rules, depth):
    """Return a tree of rules that are hard enough for it."""
    if depth == 0:
        return rules[0]
    question, low, high = [
        row for row in parting_sides(rules) if min(fewest(row[1]), fewest(row[2])) >= depth - 1][0]
    return question, grown_hard(low, depth - 1), grown_hard(high, depth - 1)


def is_fork(tree):
    """Tell whether a tree asks a question; else it is a rule."""
    # Rules as well may have three parts, but theirs are answers.
    return not isinstance(tree[0], bool)


def check_hard(rules, tree):
    """Return the mistakes that a tree holds any learner to: its ways all as deep, its rules right on them; BadPaper."""
    return checked_hard(check_rules(rules), tree, ())


def checked_hard(rules, tree, way):
    """Return a tree's depth below a way of (question, answer)."""
    if not is_fork(tree):
        rule = tuple(tree)
        if rule not in rules or any(rule[question] != answer for question, answer in way):
            raise BadPaper("a rule that is not there, or is not right on its way")
        return 0
    question, low, high = tree
    if not 0 <= question < len(rules[0]):
        raise BadPaper("a question that is not there")
    sides = [checked_hard(rules, low, (*way, (question, False))), checked_hard(rules, high, (*way, (question, True)))]
    if sides[0] != sides[1]:
        raise BadPaper("ways of unlike depths")
    return 1 + sides[0]


def worst(learner, tree):
    """Return the mistakes that a learner makes when it is told, down a tree, what it didn't say."""
    count = 0
    here = tree
    while is_fork(here):
        question, low, high = here
        answer = not learner.guess(question)
        learner.see(question, answer)
        count += 1
        here = high if answer else low
    return count
