"""Shatters: lots of questions that rules answer in all ways, how large they can be, and how many rules there can be."""

from lessonwright.errors import BadPaper, BadSize
from lessonwright.experts import power
from lessonwright.halves import check_rules

MOST_QUESTIONS = 10


def all_lots(many):
    """Return all lots of places below so many, the smaller first, then in order; BadSize past ten."""
    if many > MOST_QUESTIONS:
        raise BadSize("too many questions")
    found = [()]
    level = [()]
    while level != []:
        level = [(*lot, place) for lot in level for place in range(many) if lot == () or place > lot[-1]]
        found.extend(level)
    return tuple(found)


def way_on(rule, lot):
    """Return the row of answers that a rule gives a lot."""
    return tuple([rule[place] for place in lot])


def ways_on(rules, lot):
    """Return the rows of answers that rules give a lot, in order."""
    once = {way_on(rule, lot): True for rule in rules}
    return tuple(sorted(once))


def power_of_two(count):
    """Return two to a power."""
    return power(2, count)


def is_shattered(rules, lot):
    """Tell whether rules answer a lot in all ways."""
    return len(ways_on(rules, lot)) == power_of_two(len(lot))


def largest(rules):
    """Return the first of the largest lots that rules answer in all ways."""
    rows = check_rules(rules)
    # The bare lot is always among them, and of those of one size the first one is taken.
    return max([lot for lot in all_lots(len(rows[0])) if is_shattered(rows, lot)], key=len)


def dimension(rules):
    """Return how many questions the largest such lot has."""
    return len(largest(rules))


def choose(many, few):
    """Return in how many ways few can be taken of many."""
    if not 0 <= few <= many:
        return 0
    ways = 1
    for taken in range(few):
        # It goes in without rest: this is in how many ways one more can be taken.
        ways = ways * (many - taken) // (taken + 1)
    return ways


def most_rules(questions, size):
    """Return the most rules for so many questions that answer no lot greater than a size in all ways."""
    return sum([choose(questions, count) for count in range(size + 1)])


def check_lot(rules, lot, witnesses):
    """Return a lot's size where witnesses, rules, answer it in all ways; BadPaper."""
    left = check_rules(rules)
    if any(tuple(rule) not in left for rule in witnesses):
        raise BadPaper("a witness that is not among the rules")
    if any(not 0 <= place < len(left[0]) for place in lot):
        raise BadPaper("a place that is not there")
    once = {place: True for place in lot}
    if len(once) != len(lot) or not is_shattered(witnesses, lot):
        raise BadPaper("a place twice, or a way that no witness answers in")
    return len(lot)


def witnesses_of(rules, lot):
    """Return the first rule for each row of answers that rules give a lot, in order of the rows."""
    first = {}
    for rule in check_rules(rules):
        first.setdefault(way_on(rule, lot), rule)
    return tuple([first[way] for way in sorted(first)])


def lowered(rule, place):
    """Return a rule with False at a place."""
    return (*rule[:place], False, *rule[place + 1:])


def pressed(rules):
    """Return as many rules as there are, pressed down: no lot more in all ways, each with all that have fewer Trues."""
    left = check_rules(rules)
    for place in range(len(left[0])):
        # One round is enough: what is pressed down at one place stays so when another one is pressed.
        known = {rule: True for rule in left}
        left = [rule if lowered(rule, place) in known else lowered(rule, place) for rule in left]
    return tuple(sorted(left))


def is_down(rules):
    """Tell whether each rule's rules with fewer Trues are there, too."""
    known = {rule: True for rule in check_rules(rules)}
    # One True less at a time is enough: all with fewer are come to by such steps.
    return all(lowered(rule, place) in known for rule in known for place in range(len(rule)))


def growth(rules):
    """Return the most rows of answers that any lot of each size is given, from nought questions on."""
    rows = check_rules(rules)
    found = [0] * (len(rows[0]) + 1)
    for lot in all_lots(len(rows[0])):
        found[len(lot)] = max(found[len(lot)], len(ways_on(rows, lot)))
    return tuple(found)
