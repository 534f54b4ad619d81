"""Boosts: many weak rules, each right a little more than wrong by weights, put together to one that is right."""

from lessonwright.errors import BadSize
from lessonwright.experts import common, small
from lessonwright.points import check_examples

MOST_STEPS = 8


class Stump:
    """A rule that asks one place: its bit's answer, the other's not."""

    def __init__(self, place, bit):
        self.place = place
        self.bit = bit

    def has(self, point):
        """Tell whether a point has the bit."""
        return point[self.place] == self.bit

    def shown(self):
        """Return (place, bit)."""
        return self.place, self.bit


def all_stumps(many):
    """Return all such rules of so many places, in order."""
    return [Stump(place, bit) for place in range(many) for bit in (0, 1)]


def wrong_weight(rule, table, weights):
    """Return the weights of the examples that a rule is wrong at, in all."""
    return sum([weights[point] for point, take in table.items() if rule.has(point) != take])


def best_stump(table, weights, many):
    """Return the first rule with the least weight of what it is wrong at."""
    return min(all_stumps(many), key=lambda rule: wrong_weight(rule, table, weights), default=None)


class Boost:
    """Rules in order of their coming, how often each was wrong by weight, as small parts, and the examples' weights."""

    def __init__(self, examples, many):
        self.many = many
        self.table = check_examples(examples, many)
        if self.table == {}:
            raise BadSize("no examples")
        self.weights = {point: 1 for point in self.table}
        self.rules = []
        self.wrongs = []

    def step(self):
        """Take the best rule in; return its wrong part, or None where it is no better than a half, or never wrong."""
        rule = best_stump(self.table, self.weights, self.many)
        # Without places there is no rule at all.
        if rule is None:
            return None
        wrong = wrong_weight(rule, self.table, self.weights)
        whole = sum(list(self.weights.values()))
        if 2 * wrong >= whole:
            return None
        if wrong == 0:
            self.rules = [rule]
            self.wrongs = [(0, 1)]
            return None
        self.rules.append(rule)
        self.wrongs.append(small(wrong, whole))
        self.weights = {
            point: self.weights[point] * (wrong if rule.has(point) == take else whole - wrong)
            for point, take in self.table.items()}
        self.lighten()
        return self.wrongs[-1]

    def lighten(self):
        """Make the weights small by what goes into all."""
        both = 0
        for weight in list(self.weights.values()):
            both = small_by(both, weight)
        self.weights = {point: weight // both for point, weight in self.weights.items()}

    def run(self, most):
        """Step until no rule is taken, so often at most, up to eight; return how many rules there are; BadSize."""
        if not 0 <= most <= MOST_STEPS:
            raise BadSize("a count of steps that is out of bounds")
        for _ in range(most):
            if self.step() is None:
                break
        return len(self.rules)

    def has(self, point):
        """Tell what the rules say together: right by wrong of those that say yes, multiplied, against the others."""
        # Both sides are multiplied by all wrong parts, so that a rule that is never wrong is no division by nought.
        yes = 1
        no = 1
        for rule, (wrong, whole) in zip(self.rules, self.wrongs):
            said = rule.has(point)
            yes = yes * (whole - wrong if said else wrong)
            no = no * (wrong if said else whole - wrong)
        return yes > no

    def count_mistakes(self):
        """Return how many examples they are wrong at together."""
        return len([point for point, take in self.table.items() if self.has(point) != take])


def small_by(one, other):
    """Return the greatest number that goes into both."""
    return common(one, other)


def boost_bound(boost):
    """Tell whether mistakes by examples, squared, are no more than the product of four times wrong by right parts."""
    top = 1
    low = 1
    for wrong, whole in boost.wrongs:
        top = top * 4 * wrong * (whole - wrong)
        low = low * whole * whole
    mistakes = boost.count_mistakes()
    return mistakes * mistakes * low <= len(boost.table) * len(boost.table) * top
