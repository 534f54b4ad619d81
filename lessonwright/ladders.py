"""Ladders: rules asked one behind another, each for one place's bit, and who shows that there are none."""

from lessonwright.errors import BadPaper
from lessonwright.points import check_examples


class Ladder:
    """Steps, (place, bit, answer), asked in order, and the last answer."""

    def __init__(self, steps, last):
        self.steps = tuple([tuple(step) for step in steps])
        self.last = last

    def has(self, point):
        """Return the answer of the first step whose place has its bit, else the last."""
        for place, bit, answer in self.steps:
            if point[place] == bit:
                return answer
        return self.last

    def shown(self):
        """Return (steps, last answer)."""
        return self.steps, self.last


def answers_at(table, place, bit):
    """Return what is told of the points of a table that have a bit at a place."""
    return [take for point, take in table.items() if point[place] == bit]


def are_both(answers):
    """Tell whether there are answers of both ways."""
    return True in answers and False in answers


def next_step(left, many):
    """Return the first (place, bit, answer) that tells some of left, a table, all with one answer; None for none."""
    for place in range(many):
        for bit in (0, 1):
            answers = answers_at(left, place, bit)
            if answers != [] and not are_both(answers):
                return place, bit, answers[0]
    return None


def learned_ladder(examples, many):
    """Return (a ladder that agrees, None), or (None, the points that no step can begin with), in order."""
    left = check_examples(examples, many)
    steps = []
    while are_both(list(left.values())):
        step = next_step(left, many)
        if step is None:
            return None, tuple(sorted(left))
        steps.append(step)
        left = {point: take for point, take in left.items() if point[step[0]] != step[1]}
    # All that are left have one answer, and where nothing at all was told it is no.
    return Ladder(steps, True in list(left.values())), None


def check_none(examples, many, points):
    """Return True where each place and bit that points have is told both ways among them; BadPaper."""
    table = check_examples(examples, many)
    told = [tuple(point) for point in points]
    if len(told) < 2 or any(point not in table for point in told):
        raise BadPaper("too few points, or one that is not told")
    left = {point: table[point] for point in told}
    if not are_both(list(left.values())):
        raise BadPaper("points that are told one way")
    if next_step(left, many) is not None:
        raise BadPaper("a step that can be")
    return True


def ladder_agrees(ladder, examples):
    """Tell whether a ladder tells all examples right."""
    return all(ladder.has(point) == take for point, take in examples)


def turned_ladder(ladder):
    """Return the ladder with all answers turned over."""
    return Ladder([(place, bit, not answer) for place, bit, answer in ladder.steps], not ladder.last)


def shortened(ladder):
    """Return a ladder without steps that no point comes to, or whose answer what is behind gives as well."""
    steps = []
    for step in ladder.steps:
        if is_come_to(step, steps):
            steps.append(step)
    return Ladder(trimmed(steps, ladder.last), ladder.last)


def is_come_to(step, steps):
    """Tell whether some point is told by a step behind others."""
    asked = [(place, bit) for place, bit, _ in steps]
    # Where both bits of a place were asked, all points are told.
    return (step[0], step[1]) not in asked and not any((place, 1 - bit) in asked for place, bit in asked)


def trimmed(steps, last):
    """Return steps without the last ones that answer as the end does."""
    found = list(steps)
    while found != [] and found[-1][2] == last:
        found.pop()
    return found
