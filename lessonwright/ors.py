"""Ors: rising formulas, lots of places any of which may be asked for whole, learned by points and guesses."""

from lessonwright.errors import BadFormula, BadPaper
from lessonwright.points import all_points, first_unlike, flipped, from_ones, is_under, ones


class Or:
    """So many places, and lots of places; true of a point that has ones at all places of a lot."""

    def __init__(self, many, lots):
        self.many = many
        self.lots = lots_in_order(lots)
        if any(not 0 <= place < many for lot in self.lots for place in lot):
            raise BadFormula("a place that is not there")

    def has(self, point):
        """Tell whether the formula is true of a point."""
        return any(has_ones(point, lot) for lot in self.lots)

    def shown(self):
        """Return its lots, in order."""
        return tuple(self.lots)


def has_ones(point, lot):
    """Tell whether a point has ones at all places of a lot."""
    return all(point[place] == 1 for place in lot)


def lots_in_order(lots):
    """Return lots each once, those within no other's reach alone: the fewest places first, then by places."""
    once = {tuple(sorted({place: True for place in lot})): True for lot in lots}
    found = []
    # A lot within another one has fewer places, so it comes ahead of it.
    for lot in sorted(once, key=lambda places: (len(places), places)):
        if not any(is_within(other, lot) for other in found):
            found.append(lot)
    return found


def is_within(one, other):
    """Tell whether all places of one lot are in another."""
    return all(place in other for place in one)


def least_true(has, point):
    """Return the point below one, true itself, none of whose ones can be left out: the first places first."""
    found = tuple(point)
    for place in ones(found):
        less = flipped(found, place)
        if has(less):
            found = less
    return found


class OrTeacher:
    """A hidden formula, and how many points and guesses were asked."""

    def __init__(self, formula):
        self.hidden = formula
        self.many = formula.many
        self.asked = {}
        self.guesses = 0

    def has(self, point):
        """Answer whether the formula is true of a point; each point counts once."""
        asked = tuple(point)
        if asked not in self.asked:
            self.asked[asked] = self.hidden.has(asked)
        return self.asked[asked]

    def wrong_at(self, guess):
        """Answer a guess: the first point it is wrong at, None for none."""
        point = first_unlike(self.hidden.has, guess.has, self.many)
        self.guesses += 1
        return point


def learned_or(teacher):
    """Return the formula learned: each wrong point makes one of its lots, in the order they were found."""
    lots = []
    guess = Or(teacher.many, lots)
    point = teacher.wrong_at(guess)
    while point is not None:
        # A guess holds lots of the formula alone, so the formula is true of each point that it is wrong at.
        lots.append(ones(least_true(teacher.has, point)))
        guess = Or(teacher.many, lots)
        point = teacher.wrong_at(guess)
    return guess


def edges(formula):
    """Return (the least points it is true of, the greatest ones it isn't), in order: the paper of a rising formula."""
    low = []
    high = []
    for point in all_points(formula.many):
        if formula.has(point):
            if least_true(formula.has, point) == point:
                low.append(point)
        elif is_top(formula, point):
            high.append(point)
    return tuple(low), tuple(high)


def is_top(formula, point):
    """Tell whether a formula is true of all points one step above."""
    return all(formula.has(flipped(point, place)) for place, bit in enumerate(point) if bit == 0)


def check_edges(has, many, formula, papers):
    """Return True where low points are true, high ones not, each point above a low or below a high; BadPaper."""
    low, high = papers
    if any(not has(point) or not formula.has(point) for point in low) or any(has(point) for point in high):
        raise BadPaper("a low point that is not true, or a high one that is")
    for point in all_points(many):
        is_above = any(is_under(one, point) for one in low)
        if is_above == any(is_under(point, one) for one in high):
            raise BadPaper("a point that is not parted")
        if formula.has(point) != is_above:
            raise BadPaper("another formula")
    return True


def crossed(formula):
    """Return the least lots of places that meet each lot: the formula turned over, in order."""
    found = [()]
    for lot in formula.lots:
        # One that meets the lot already comes again, and the longer ones made of it are left out for it.
        found = lots_in_order([(*one, place) for one in found for place in lot])
    return tuple(found)


def lot_point(lot, many):
    """Return the point with ones at a lot's places alone."""
    return from_ones(lot, many)
