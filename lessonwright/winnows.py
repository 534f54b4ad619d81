"""Winnows: weights of places, doubled and dropped, that find which few of many places count."""

from lessonwright.errors import BadExample


class Winnow:
    """A weight for each place, one at first, and the mistakes that were made either way."""

    def __init__(self, many):
        self.many = many
        self.weights = [1] * many
        self.lacks = 0
        self.spares = 0

    def guess(self, point):
        """Tell whether the weights of a point's ones, not nought, are half as many as the places, or more."""
        whole = sum([weight for weight, bit in zip(self.weights, point) if bit == 1])
        return whole != 0 and 2 * whole >= self.many

    def see(self, point, take):
        """Guess a point; wrongly no, double its ones' weights; wrongly yes, drop them; return the guess; BadExample."""
        if take and all([weight == 0 for weight, bit in zip(self.weights, point) if bit == 1]):
            raise BadExample("a yes for places that do not count")
        guess = self.guess(point)
        if take and not guess:
            self.weights = [2 * weight if bit == 1 else weight for weight, bit in zip(self.weights, point)]
            self.lacks += 1
        if guess and not take:
            self.weights = [0 if bit == 1 else weight for weight, bit in zip(self.weights, point)]
            self.spares += 1
        return guess


def logarithm(many):
    """Return the least number of doublings from one to so many."""
    count = 0
    reach = 1
    while reach < many:
        reach = 2 * reach
        count += 1
    return count


def most_winnow(many, few):
    """Return 2 f (logarithm(many) + 1) + 2: it never makes more mistakes when any of f places is what counts."""
    return 2 * few * (logarithm(many) + 1) + 2


def is_any(point, places):
    """Tell whether a point has a one at any of some places."""
    return any(point[place] == 1 for place in places)


def alive(learner):
    """Return the places whose weights aren't dropped, in order."""
    return tuple([place for place, weight in enumerate(learner.weights) if weight != 0])


def weight_of(learner):
    """Return all weights in all."""
    return sum(learner.weights)
