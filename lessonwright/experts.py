"""Experts: answers of several, weighed by their mistakes, and how few more mistakes their vote makes than the best."""

from lessonwright.errors import BadSize


class Vote:
    """So many experts, the mistakes of each, and the vote's."""

    def __init__(self, many):
        if many < 1:
            raise BadSize("no experts")
        self.wrong = [0] * many
        self.mistakes = 0

    def whole_weights(self):
        """Return whole weights: halved for each mistake, all times so much that they are whole."""
        most = max(self.wrong)
        return tuple([power(2, most - wrong) for wrong in self.wrong])

    def guess(self, answers):
        """Return what the heavier half says; for alike ones True."""
        weights = self.whole_weights()
        return 2 * sum([weight for weight, answer in zip(weights, answers) if answer]) >= sum(weights)

    def see(self, answers, right):
        """Vote, then note who was wrong; return the vote; BadSize for another count of answers."""
        if len(answers) != len(self.wrong):
            raise BadSize("another count of answers than of experts")
        guess = self.guess(answers)
        self.wrong = [wrong + 1 if answer != right else wrong for wrong, answer in zip(self.wrong, answers)]
        if guess != right:
            self.mistakes += 1
        return guess


def power(base, count):
    """Return a number times itself so often."""
    found = 1
    for _ in range(count):
        found = found * base
    return found


def vote_bound(mistakes, best, many):
    """Tell whether 4 to a vote's mistakes is no more than experts times 2 to the best one's times 3 to the vote's."""
    return power(4, mistakes) <= many * power(2, best) * power(3, mistakes)


class Mix:
    """So many experts, each followed by its weight's share: weights, losses and the shares' loss as parts."""

    def __init__(self, many):
        if many < 1:
            raise BadSize("no experts")
        self.weights = [1] * many
        self.losses = [0] * many
        self.loss = (0, 1)
        self.rest = (1, 1)

    def shares(self):
        """Return (weight, all weights) of each expert, as parts made small."""
        whole = sum(self.weights)
        return tuple([small(weight, whole) for weight in self.weights])

    def see(self, losses):
        """Take in losses, nought or one each: the shares' loss grows by theirs, who lost none is doubled; return
        this turn's part: the losers' weights by all weights, made small."""
        if len(losses) != len(self.weights) or any(loss not in (0, 1) for loss in losses):
            raise BadSize("another count of losses than of experts, or a loss that is neither nought nor one")
        top, low = small(sum([weight for weight, loss in zip(self.weights, losses) if loss == 1]), sum(self.weights))
        self.loss = added(self.loss, (top, low))
        # One less half of the share is left of what was left.
        self.rest = small(self.rest[0] * (2 * low - top), self.rest[1] * 2 * low)
        self.weights = [weight if loss == 1 else 2 * weight for weight, loss in zip(self.weights, losses)]
        self.losses = [whole + loss for whole, loss in zip(self.losses, losses)]
        return top, low


def common(one, other):
    """Return the greatest number that goes into both."""
    left = abs(one)
    right = abs(other)
    while right != 0:
        left, right = right, left % right
    return left


def small(top, low):
    """Return a part made small."""
    both = common(top, low)
    return top // both, low // both


def added(one, other):
    """Return the sum of two parts."""
    return small(one[0] * other[1] + other[0] * one[1], one[1] * other[1])


def in_bounds(mix):
    """Tell whether the best one's halvings are no more than experts by the product of what the shares' losses left."""
    top, low = mix.rest
    return low <= len(mix.weights) * top * power(2, min(mix.losses))


class Sleepers:
    """Rules that sometimes answer, the first of the fewest mistakes that does is followed."""

    def __init__(self, many):
        self.wrong = [0] * many
        self.mistakes = 0

    def leader(self, answers):
        """Return who is followed, None where nobody answers."""
        awake = [(wrong, place) for place, wrong in enumerate(self.wrong) if answers[place] is not None]
        return None if awake == [] else min(awake)[1]

    def see(self, answers, right):
        """Follow, then note who was wrong; return what was said, None for nothing."""
        leader = self.leader(answers)
        if leader is None:
            return None
        said = answers[leader]
        self.wrong = [
            wrong + 1 if answer is not None and answer != right else wrong
            for wrong, answer in zip(self.wrong, answers)]
        if said != right:
            self.mistakes += 1
        return said
