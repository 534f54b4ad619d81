"""Ands: rules that ask places for their bits, the closest to what was told, and all that agree between two edges."""

from lessonwright.errors import BadExample
from lessonwright.points import all_points, check_point


class And:
    """So many places, and a table, or pairs, of places to the bits they must have; or nothing at all is true of it."""

    def __init__(self, many, bits=None):
        self.many = many
        # None is the rule that nothing is true of; a bare table is another one: it asks nothing, and all is true of it.
        self.bits = None if bits is None else dict(bits)

    def has(self, point):
        """Tell whether a point has all bits."""
        return self.bits is not None and all([point[place] == bit for place, bit in self.bits.items()])

    def shown(self):
        """Return the (place, bit) in order, None for the rule that nothing is true of."""
        return None if self.bits is None else tuple(sorted(self.bits.items()))

    def widened(self, point):
        """Return the closest rule that is true of a point, too."""
        if self.bits is None:
            return And(self.many, dict(enumerate(point)))
        return And(self.many, {place: bit for place, bit in self.bits.items() if point[place] == bit})

    def covers(self, other):
        """Tell whether all that another rule is true of it is true of, too."""
        if other.bits is None:
            return True
        if self.bits is None:
            return False
        return all([other.bits.get(place) == bit for place, bit in self.bits.items()])

    def narrowed(self, point):
        """Return the widest rules below that aren't true of a point, by places."""
        if not self.has(point):
            return (self,)
        free = [place for place in range(self.many) if place not in self.bits]
        if free == []:
            # A rule that is true of one point alone has just one rule below it.
            return (And(self.many),)
        return tuple([And(self.many, with_bit(self.bits, place, 1 - point[place])) for place in free])


def closest_and(examples, many):
    """Return the closest rule that is true of all points told true; BadExample where it is true of one told not."""
    told = [(check_point(point, many), take) for point, take in examples]
    found = And(many)
    for point, take in told:
        if take:
            found = found.widened(point)
    if any(found.has(point) for point, take in told if not take):
        raise BadExample("no rule agrees")
    return found


class Learner:
    """The closest rule so far, and the mistakes made: it says no where it isn't sure."""

    def __init__(self, many):
        self.rule = And(many)
        self.mistakes = 0

    def see(self, point, take):
        """Guess a point, then take in what is told; return the guess; BadExample for a yes told not: no rule agrees."""
        guess = self.rule.has(point)
        if guess and not take:
            raise BadExample("no rule agrees")
        if take and not guess:
            self.rule = self.rule.widened(point)
            self.mistakes += 1
        return guess


def most_mistakes(many):
    """Return the most mistakes that the learner makes on any row of points that some rule tells."""
    # The first mistake makes a rule of all places, and each further one leaves out a place.
    return many + 1


class Edges:
    """The closest rule that agrees with all that was told, and the widest ones."""

    def __init__(self, many):
        self.many = many
        self.low = And(many)
        self.high = [And(many, {})]

    def see(self, point, take):
        """Take in what is told of a point."""
        if take:
            self.low = self.low.widened(point)
            self.high = [rule for rule in self.high if rule.has(point)]
        else:
            found = [below for rule in self.high for below in rule.narrowed(point) if below.covers(self.low)]
            self.high = [rule for place, rule in enumerate(found) if not covered(rule, found, place)]

    def is_bare(self):
        """Tell whether no rule agrees."""
        return not self.agrees_low()

    def agrees_low(self):
        """Tell whether the closest rule lies under a widest one."""
        return any(rule.covers(self.low) for rule in self.high)

    def says(self, point):
        """Return what all rules that agree say of a point: True, False, or None where they don't say one thing."""
        if self.is_bare():
            return None
        # All rules that agree are true where the lowest is, and none is where no highest is.
        if self.low.has(point):
            return True
        return None if any(rule.has(point) for rule in self.high) else False


def covered(rule, rules, place):
    """Tell whether another rule is wider, or as wide and ahead."""
    for here, other in enumerate(rules):
        if other.covers(rule) and (here < place or not rule.covers(other)):
            return True
    return False


def all_rules(many):
    """Return all rules of so many places, the one nothing is true of first."""
    tables = [{}]
    for place in range(many):
        tables = [longer for bits in tables for longer in (bits, with_bit(bits, place, 0), with_bit(bits, place, 1))]
    return tuple([And(many)] + [And(many, bits) for bits in tables])


def with_bit(bits, place, bit):
    """Return bits with one more."""
    found = dict(bits)
    found[place] = bit
    return found


def points_of(rule):
    """Return the points that a rule is true of, in order."""
    return tuple([point for point in all_points(rule.many) if rule.has(point)])
