"""Boughs: trees of places that agree with examples, the smallest and the flattest, with tables that show it."""

from lessonwright.errors import BadFormula, BadPaper
from lessonwright.points import check_examples


def check_tree(tree, many):
    """Return a tree: an answer, or (place, tree for nought, tree for one), no place twice on a way; BadFormula."""
    return checked(tree, many, ())


def checked(tree, many, used):
    """Return a tree below used places."""
    if isinstance(tree, bool):
        return tree
    if len(tree) != 3 or not 0 <= tree[0] < many or tree[0] in used:
        raise BadFormula("no tree, a place that is not there, or a place twice on a way")
    place, low, high = tree
    below = (*used, place)
    return place, checked(low, many, below), checked(high, many, below)


def has(tree, point):
    """Return a tree's answer for a point."""
    here = tree
    while not isinstance(here, bool):
        place, low, high = here
        here = high if point[place] == 1 else low
    return here


def size(tree):
    """Return how many places a tree asks in all."""
    if isinstance(tree, bool):
        return 0
    return 1 + size(tree[1]) + size(tree[2])


def depth(tree):
    """Return the most places asked on a way."""
    if isinstance(tree, bool):
        return 0
    return 1 + max(depth(tree[1]), depth(tree[2]))


def tree_agrees(tree, examples):
    """Tell whether a tree tells all examples right."""
    return all(has(tree, point) == take for point, take in examples)


def table_key(table):
    """Return what a table of examples is known by."""
    return tuple(sorted(table.items()))


def halves(table, place):
    """Return the examples with nought and with one at a place."""
    low = {point: take for point, take in table.items() if point[place] == 0}
    high = {point: take for point, take in table.items() if point[place] == 1}
    return low, high


def parting_halves(table, many):
    """Return (place, low, high) for each place that has points on both sides."""
    found = []
    for place in range(many):
        low, high = halves(table, place)
        if low != {} and high != {}:
            found.append((place, low, high))
    return found


def cost_by(sides, flat):
    """Return the cost of asking a place whose sides cost so much."""
    return 1 + (max(sides) if flat else sum(sides))


def tree_costs(examples, many, flat):
    """Return a table of lots of examples, and their parts, to the least size of a tree, or depth where flat."""
    found = {}
    cost_of(check_examples(examples, many), many, flat, found)
    return found


def cost_of(table, many, flat, found):
    """Return the least size, or depth, of a tree for examples; note it and those of all parts."""
    lot = table_key(table)
    if lot not in found:
        costs = [0]
        if rarer(table) != 0:
            costs = [
                cost_by([cost_of(low, many, flat, found), cost_of(high, many, flat, found)], flat)
                for _, low, high in parting_halves(table, many)]
        found[lot] = min(costs)
    return found[lot]


def best(examples, many, flat=False):
    """Return the smallest tree, or the flattest, that agrees: the first places first; nothing told is False."""
    return grown(check_examples(examples, many), many, flat, tree_costs(examples, many, flat))


def grown(table, many, flat, found):
    """Return the tree of least cost by the costs found."""
    if rarer(table) == 0:
        return only_answer(table)
    # The first of those that cost the least.
    place, low, high = min(
        parting_halves(table, many),
        key=lambda row: cost_by([found[table_key(row[1])], found[table_key(row[2])]], flat))
    return place, grown(low, many, flat, found), grown(high, many, flat, found)


def only_answer(table):
    """Return the answer of examples that are told one way, False for none."""
    return True in list(table.values())


def check_costs(examples, many, flat, found):
    """Return the cost of all examples where each lot's is no more than any place's parts make it: BadPaper."""
    whole = table_key(check_examples(examples, many))
    if whole not in found:
        raise BadPaper("examples that are not there")
    for lot in found:
        check_lot_cost(lot, many, flat, found)
    return found[whole]


def check_lot_cost(lot, many, flat, found):
    """Refuse a lot whose cost isn't there, is nought for unlike answers, or is more than a place makes it."""
    table = {point: take for point, take in lot}
    is_alike = rarer(table) == 0
    if is_alike != (found[lot] == 0):
        raise BadPaper("a cost of nought for unlike answers, or none for alike ones")
    if is_alike:
        return
    for _, low, high in parting_halves(table, many):
        if table_key(low) not in found or table_key(high) not in found:
            raise BadPaper("a part that is not there")
        if found[lot] > cost_by([found[table_key(low)], found[table_key(high)]], flat):
            raise BadPaper("a cost that is too dear")


def greedy(examples, many):
    """Return the tree that asks at each step the place with the fewest mistakes, the first of alike ones."""
    return grown_greedy(check_examples(examples, many), many)


def grown_greedy(table, many):
    """Return the greedy tree of examples."""
    if rarer(table) == 0:
        return only_answer(table)
    place, low, high = min(parting_halves(table, many), key=lambda row: rarer(row[1]) + rarer(row[2]))
    return place, grown_greedy(low, many), grown_greedy(high, many)


def rarer(table):
    """Return how many examples are told the rarer way."""
    right = len([point for point, take in table.items() if take])
    return min(right, len(table) - right)
