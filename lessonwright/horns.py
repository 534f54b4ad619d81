"""Horns: rules of the kind 'these ask for that', learned by points and guesses."""

from lessonwright.errors import BadSize
from lessonwright.points import all_points, first_unlike, from_ones, join, meet, ones


class Horn:
    """So many places, and rules, (places, place or None): ones at all places ask for the place, or are forbidden."""

    def __init__(self, many, rules):
        self.many = many
        self.rules = [(tuple(places), place) for places, place in rules]

    def has(self, point):
        """Tell whether a point keeps all rules."""
        return not any(breaks(point, rule) for rule in self.rules)

    def shown(self):
        """Return the rules, each as often as told: places in order, rules by these, then by the place, None behind."""
        rows = [(tuple(sorted(places)), place) for places, place in self.rules]
        # Behind all places stands the first number that is none.
        return tuple(sorted(rows, key=lambda rule: (rule[0], self.many if rule[1] is None else rule[1])))

    def closed(self, point):
        """Return the least point above that keeps all rules, None where it is forbidden."""
        found = tuple(point)
        broken = [rule for rule in self.rules if breaks(found, rule)]
        while broken != []:
            asked = [place for _, place in broken]
            if None in asked:
                return None
            found = join(found, from_ones(asked, self.many))
            broken = [rule for rule in self.rules if breaks(found, rule)]
        return found


def breaks(point, rule):
    """Tell whether a point breaks a rule: ones at its places, and none where it asks."""
    places, place = rule
    if place is not None and point[place] == 1:
        return False
    return all(point[here] == 1 for here in places)


class HornTeacher:
    """Hidden rules, and how many points and guesses were asked."""

    def __init__(self, horn):
        self.hidden = horn
        self.many = horn.many
        self.asked = {}
        self.guesses = 0

    def has(self, point):
        """Answer whether a point keeps the rules; each point counts once."""
        asked = tuple(point)
        if asked not in self.asked:
            self.asked[asked] = self.hidden.has(asked)
        return self.asked[asked]

    def wrong_at(self, guess):
        """Answer a guess: the first point it is wrong at, None for none."""
        point = first_unlike(self.hidden.has, guess.has, self.many)
        self.guesses += 1
        return point


def all_asks(point, many):
    """Return all rules that a point breaks by its ones: each place without one, then nothing at all."""
    lot = ones(point)
    return [(lot, place) for place in range(many) if place not in lot] + [(lot, None)]


def right_asks(point, many, right):
    """Return the rules that a point breaks by its ones and no right point breaks."""
    return [rule for rule in all_asks(point, many) if not any(breaks(good, rule) for good in right)]


def learned_horn(teacher, most=400):
    """Return the rules learned: kept points each forbid what no true point has shown to be right; BadSize."""
    broken = []
    right = []
    for _ in range(most):
        guess = Horn(teacher.many, [rule for kept in broken for rule in right_asks(kept, teacher.many, right)])
        point = teacher.wrong_at(guess)
        if point is None:
            return guess
        # A point that the guess is wrong at is right where the guess says that it isn't: no need to ask.
        if guess.has(point):
            take_in(teacher, broken, point)
        else:
            right.append(point)
    raise BadSize("too many guesses")


def take_in(teacher, broken, point):
    """Make the first kept point less that can be by a broken one, else keep that, too."""
    for place in range(len(broken)):
        less = meet(broken[place], point)
        if less != broken[place] and not teacher.has(less):
            broken[place] = less
            return
    broken.append(point)


def is_closed(points):
    """Tell whether points have what any two of them both have: just such lots are kept by rules of this kind."""
    known = {tuple(point): True for point in points}
    return all(meet(one, other) in known for one in known for other in known)


def rules_of(points, many):
    """Return the rules that just the closed points keep, each by the least it is broken with; BadSize for others."""
    if not is_closed(points):
        raise BadSize("points that are not closed")
    rules = [rule for point in all_points(many) for rule in right_asks(point, many, points)]
    return Horn(many, [rule for rule in rules if not any(is_less(other, rule) for other in rules)])


def is_less(one, other):
    """Tell whether a rule asks for the same, or forbids, by fewer places."""
    if one[1] is not None and one[1] != other[1]:
        return False
    return len(one[0]) < len(other[0]) and all(place in other[0] for place in one[0])
