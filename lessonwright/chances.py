"""Chances: counts of answers and of bits under each, kept up, and the answer they make the likeliest."""

from lessonwright.errors import BadExample, BadSize
from lessonwright.experts import added, common, small
from lessonwright.points import check_point


class Counts:
    """So many places, how often each answer came, and how often a one at each place under it."""

    def __init__(self, many):
        self.many = many
        self.told = {}
        self.ones = {}

    def put(self, point, answer):
        """Count an example."""
        found = check_point(point, self.many)
        self.told[answer] = self.told.get(answer, 0) + 1
        self.ones[answer] = [count + bit for count, bit in zip(self.ones.get(answer, [0] * self.many), found)]

    def take(self, point, answer):
        """Count an example no more; BadExample where its counts aren't there."""
        found = check_point(point, self.many)
        if self.told.get(answer, 0) == 0:
            raise BadExample("an answer that is not counted")
        if any(not self.can_take(answer, place, bit) for place, bit in enumerate(found)):
            raise BadExample("a bit that is not counted under its answer")
        self.told[answer] -= 1
        self.ones[answer] = [count - bit for count, bit in zip(self.ones[answer], found)]
        # What is counted no more is as what never came.
        if self.told[answer] == 0:
            del self.told[answer]
            del self.ones[answer]

    def count_of(self, answer, place, bit):
        """Return how often a bit came at a place under an answer."""
        if answer not in self.told:
            return 0
        return self.ones[answer][place] if bit == 1 else self.told[answer] - self.ones[answer][place]

    def can_take(self, answer, place, bit):
        """Tell whether a bit under an answer is counted at least once."""
        return self.count_of(answer, place, bit) > 0

    def answers(self):
        """Return the answers that came, in order."""
        return tuple(sorted(self.told))

    def weight(self, answer, point):
        """Return (top, low): an answer's count times each bit's and one more, by the answer's and two more for each."""
        found = check_point(point, self.many)
        top = self.told.get(answer, 0)
        low = 1
        for place, bit in enumerate(found):
            top = top * (self.count_of(answer, place, bit) + 1)
            low = low * (self.told.get(answer, 0) + 2)
        return top, low

    def likeliest(self, point):
        """Return the answer of the greatest weight, those alike by their order; BadSize for none."""
        best = None
        most = (-1, 1)
        for answer in self.answers():
            top, low = self.weight(answer, point)
            if top * most[1] > most[0] * low:
                best = answer
                most = (top, low)
        if best is None:
            raise BadSize("no answers")
        return best

    def chance(self, answer, point):
        """Return an answer's weight as a part of all answers' weights, made small; BadSize for none."""
        rows = [self.weight(one, point) for one in self.answers()]
        if rows == []:
            raise BadSize("no answers")
        whole = (0, 1)
        for row in rows:
            whole = added(whole, row)
        top, low = self.weight(answer, point)
        return small(top * whole[1], low * whole[0])

    def shown(self):
        """Return (answer, count, ones at each place) in order."""
        return tuple([(answer, self.told[answer], tuple(self.ones[answer])) for answer in self.answers()])


def shared(one, other):
    """Return the greatest number that goes into both."""
    return common(one, other)


def counted(examples, many):
    """Return the counts of examples."""
    found = Counts(many)
    for point, answer in examples:
        found.put(point, answer)
    return found
