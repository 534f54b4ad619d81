"""Groups: numbers in so many groups as close as can be, and points tied by their shortest links."""

from lessonwright.errors import BadPaper, BadSize
from lessonwright.lines import part, plus
from lessonwright.nears import far


def spread(numbers):
    """Return the squares of numbers' distances from their middle in all, a part; nought for none."""
    count = len(numbers)
    if count == 0:
        return (0, 1)
    whole = sum(numbers)
    return part(count * sum([number * number for number in numbers]) - whole * whole, count)


def part_less(one, other):
    """Tell whether a part is less than another."""
    return one[0] * other[1] < other[0] * one[1]


def counts_of(size, groups):
    """Return how many of so many sorted numbers may be in so many groups, none of them bare."""
    return list(range(groups, size + 1)) if groups > 0 else [0]


def with_last(row, count, groups, found):
    """Return (spread, start) for each last group of so many numbers in so many groups, the longest first."""
    return [
        (plus(found[start, groups - 1], spread(row[start:count])), start)
        for start in counts_of(count - 1, groups - 1)]


def group_costs(numbers, many):
    """Return a table of (how many of the sorted numbers, groups) to the least spread in all, none bare."""
    row = sorted(numbers)
    found = {(0, 0): (0, 1)}
    for groups in range(1, many + 1):
        for count in counts_of(len(row), groups):
            costs = [cost for cost, _ in with_last(row, count, groups, found)]
            found[count, groups] = least_part(costs)
    return found


def least_part(parts):
    """Return the least of some parts."""
    least = parts[0]
    for one in parts:
        if part_less(one, least):
            least = one
    return least


def grouped(numbers, many):
    """Return so many groups of sorted numbers of the least spread in all, the last ones as long as can be; BadSize."""
    row = sorted(numbers)
    found = group_costs(row, many)
    if (len(row), many) not in found:
        raise BadSize("too many groups, or none for some numbers")
    lots = []
    end = len(row)
    for groups in reversed(range(1, many + 1)):
        starts = [start for cost, start in with_last(row, end, groups, found) if cost == found[end, groups]]
        lots.append(tuple(row[starts[0]:end]))
        end = starts[0]
    return tuple(reversed(lots))


def check_groups(numbers, parts, found):
    """Return the spread of parts where a table shows that none is less: each no more than any last group makes it."""
    row = sorted(numbers)
    if [number for lot in parts for number in lot] != row or any(len(lot) == 0 for lot in parts):
        raise BadPaper("groups of other numbers, or a bare one")
    if found.get((0, 0)) != (0, 1):
        raise BadPaper("no groups of no numbers that do not cost nought")
    for groups in range(1, len(parts) + 1):
        check_costs_of(row, groups, found)
    whole = (0, 1)
    for lot in parts:
        whole = plus(whole, spread(lot))
    if whole != found[len(row), len(parts)]:
        raise BadPaper("groups that are not the least")
    return whole


def check_costs_of(row, groups, found):
    """Refuse a table that lacks a cost of so many groups, or has one that is more than some last group makes it."""
    for count in counts_of(len(row), groups):
        if (count, groups) not in found:
            raise BadPaper("a cost that is not there")
        if any([part_less(cost, found[count, groups]) for cost, _ in with_last(row, count, groups, found)]):
            raise BadPaper("a cost that is too dear")


def ties(points):
    """Return the links, (square, lower, higher), that tie all points by the shortest, those alike by their places."""
    places = range(len(points))
    links = sorted([
        (far(points[lower], points[higher]), lower, higher) for lower in places for higher in places if lower < higher])
    owners = list(places)
    found = []
    for square, lower, higher in links:
        if owners[lower] != owners[higher]:
            found.append((square, lower, higher))
            owners = joined(owners, lower, higher)
    return tuple(found)


def joined(owners, lower, higher):
    """Return the owners of places, one of each group, with two places' groups made one."""
    return [owners[lower] if owner == owners[higher] else owner for owner in owners]


def tied(points, many):
    """Return so many groups of places, tied by the shortest links, by their first places; BadSize."""
    if not 1 <= many <= len(points):
        raise BadSize("no groups, or more than points")
    owners = list(range(len(points)))
    for _, lower, higher in ties(points)[:len(points) - many]:
        owners = joined(owners, lower, higher)
    lots = {}
    for place, owner in enumerate(owners):
        lots.setdefault(owner, []).append(place)
    return tuple([tuple(lot) for lot in list(lots.values())])


def gap(points, lots):
    """Return the least square between points of unlike groups, None for one group: no groups of as many are further."""
    return min([
        far(points[mine], points[theirs])
        for here, one in enumerate(lots) for other in lots[:here] for mine in one for theirs in other], default=None)
