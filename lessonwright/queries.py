"""Queries: what to ask next, to know which of some things is meant by the fewest questions."""

from lessonwright.errors import BadPaper, BadSize


def check_things(weights):
    """Return weights of things, whole numbers from one on; BadSize for none or others."""
    found = list(weights)
    if found == [] or any(weight < 1 for weight in found):
        raise BadSize("no things, or a weight below one")
    return found


def any_tree(weights):
    """Return a tree of places, pairs within pairs, of the least questions in all, where any lot may be asked for."""
    rows = [(weight, place) for place, weight in enumerate(check_things(weights))]
    while len(rows) > 1:
        # Alike ones stay in the order of their coming, for a new one comes last.
        one, other, *rest = sorted(rows, key=lambda row: row[0])
        rows = [*rest, (one[0] + other[0], (one[1], other[1]))]
    return rows[0][1]


def depths(tree):
    """Return a table of places to how many questions they are known by."""
    if isinstance(tree, int):
        return {tree: 0}
    found = {}
    for side in tree:
        for place, depth in depths(side).items():
            found[place] = depth + 1
    return found


def questions_of(tree, weights):
    """Return the questions of a tree in all, each thing by its weight."""
    return sum([weights[place] * depth for place, depth in depths(tree).items()])


def check_asking(tree, weights):
    """Return the cost of a tree of all places, each once; BadPaper."""
    if sorted(places_in(tree)) != list(range(len(weights))):
        raise BadPaper("a tree of other places")
    return questions_of(tree, weights)


def places_in(tree):
    """Return a tree's places, from left to right."""
    if isinstance(tree, int):
        return [tree]
    return [place for side in tree for place in places_in(side)]


def check_questions(questions, many):
    """Return questions as tuples of places, each place once, in order; BadSize for places that aren't there."""
    found = [tuple(sorted({place: True for place in lot})) for lot in questions]
    if any(not 0 <= place < many for lot in found for place in lot):
        raise BadSize("a thing that is not there")
    return found


def query_costs(weights, questions):
    """Return a table of lots of things to (least questions in all, first question's number), None for lots alike."""
    rows = check_things(weights)
    found = {}
    least_of(tuple(range(len(rows))), rows, check_questions(questions, len(rows)), found)
    return found


def sides_of(things, lot):
    """Return the things that a question doesn't tell of, and those that it does."""
    return tuple([thing for thing in things if thing not in lot]), tuple([thing for thing in things if thing in lot])


def least_of(things, weights, questions, found):
    """Return the least questions to tell things apart, None where they can't be; note it and what to ask."""
    here = tuple(things)
    if here not in found:
        found[here] = (0, None) if len(here) == 1 else first_least(here, weights, questions, found)
    return None if found[here] is None else found[here][0]


def first_least(things, weights, questions, found):
    """Return (least questions, number of the first question to ask) for some things, None where they can't be told."""
    once = sum([weights[thing] for thing in things])
    best = None
    for number, lot in enumerate(questions):
        low, high = sides_of(things, lot)
        if low != () and high != ():
            costs = [least_of(low, weights, questions, found), least_of(high, weights, questions, found)]
            if None not in costs and (best is None or once + sum(costs) < best[0]):
                best = (once + sum(costs), number)
    return best


def least_questions(weights, questions):
    """Return the least questions in all to tell all things apart by told questions, None where they can't be."""
    cost = query_costs(weights, questions)[tuple(range(len(weights)))]
    return None if cost is None else cost[0]


def asked_for(weights, questions, thing):
    """Return the (question's number, answer) by which a thing comes to be known, the cheapest way; BadSize."""
    found = query_costs(weights, questions)
    lots = check_questions(questions, len(weights))
    here = tuple(range(len(weights)))
    if thing not in here:
        raise BadSize("a thing that is not there")
    way = []
    while len(here) > 1:
        if found[here] is None:
            raise BadSize("things that no question tells apart")
        number = found[here][1]
        answer = thing in lots[number]
        way.append((number, answer))
        here = sides_of(here, lots[number])[1 if answer else 0]
    return tuple(way)


def alike_things(questions, many):
    """Return the first two things that no question tells apart, None where all are told apart."""
    lots = check_questions(questions, many)
    for one in range(many):
        for other in range(one + 1, many):
            if all([(one in lot) == (other in lot) for lot in lots]):
                return one, other
    return None
