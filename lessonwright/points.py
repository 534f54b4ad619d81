"""Points: rows of noughts and ones, which lie under which, and functions of them as tables."""

from lessonwright.errors import BadExample, BadSize

MOST_PLACES = 10


def all_points(many):
    """Return all points of so many places, by their numbers, the first place the highest; BadSize past ten."""
    if not 0 <= many <= MOST_PLACES:
        raise BadSize("a count of places that is out of bounds")
    found = [()]
    for _ in range(many):
        found = [point + (bit,) for point in found for bit in (0, 1)]
    return tuple(found)


def check_point(point, many):
    """Return a point of so many places as a tuple; BadExample."""
    found = tuple(point)
    if len(found) != many or any(bit not in (0, 1) for bit in found):
        raise BadExample("no point of so many places")
    return found


def is_under(one, other):
    """Tell whether one point has a one only where the other has."""
    return all(theirs == 1 for mine, theirs in zip(one, other) if mine == 1)


def meet(one, other):
    """Return the point that has a one where both have."""
    return tuple([min(mine, theirs) for mine, theirs in zip(one, other)])


def join(one, other):
    """Return the point that has a one where either has."""
    return tuple([max(mine, theirs) for mine, theirs in zip(one, other)])


def ones(point):
    """Return the places that have a one."""
    return tuple([place for place, bit in enumerate(point) if bit == 1])


def from_ones(places, many):
    """Return the point with ones at some places."""
    return tuple([1 if place in places else 0 for place in range(many)])


def flipped(point, place):
    """Return a point with one place turned over."""
    return tuple([1 - bit if here == place else bit for here, bit in enumerate(point)])


def apart(one, other):
    """Return at how many places two points are not one."""
    return len([place for place, bit in enumerate(one) if bit != other[place]])


def check_examples(examples, many):
    """Return a table of points to what is told of them; BadExample for a point told both ways."""
    found = {}
    for told, take in examples:
        point = check_point(told, many)
        if found.get(point, take) != take:
            raise BadExample("a point told both ways")
        found[point] = take
    return found


def table_of(rule, many):
    """Return what a rule tells of all points, in order."""
    return tuple([rule(point) for point in all_points(many)])


def is_rising(rule, many):
    """Tell whether a rule that is true of a point is true of all above it."""
    # One step up is enough: all above a point are come to by such steps.
    told = dict(zip(all_points(many), table_of(rule, many)))
    for point, take in told.items():
        if take and not all(told[join(point, from_ones([place], many))] for place in range(many)):
            return False
    return True


def first_unlike(one, other, many):
    """Return the first point that two rules tell unlike things of, None for none."""
    for point in all_points(many):
        if one(point) != other(point):
            return point
    return None
