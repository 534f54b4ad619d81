"""Nears: answers by the nearest examples, and the fewer examples that answer all others right."""

from lessonwright.errors import BadSize


def check_rows(examples):
    """Return examples, (row of numbers, answer), rows of one length; BadSize for none or others."""
    found = [(tuple(row), told) for row, told in examples]
    if found == [] or any(len(row) != len(found[0][0]) for row, _ in found):
        raise BadSize("no examples, or rows of unlike lengths")
    return found


def far(one, other):
    """Return the square of two rows' distance."""
    return sum([(mine - theirs) * (mine - theirs) for mine, theirs in zip(one, other)])


def nearest(examples, row, many):
    """Return the places of the so many nearest examples, those alike by their places; BadSize for too many."""
    rows = check_rows(examples)
    if not 0 < many <= len(rows):
        raise BadSize("no nearest ones, or more than there are examples")
    ranked = sorted([(far(known, row), place) for place, (known, _) in enumerate(rows)])
    return tuple([place for _, place in ranked[:many]])


def answer(examples, row, many):
    """Return the answer of most of the nearest; of as many that of the nearest among them."""
    rows = check_rows(examples)
    told = [rows[place][1] for place in nearest(rows, row, many)]
    # The nearest come first, and of answers told as often the first one is taken.
    return max(told, key=lambda one: told.count(one))


def left_out(examples, many):
    """Return how many examples all the others answer wrongly; BadSize for too few."""
    rows = check_rows(examples)
    if len(rows) < 2:
        raise BadSize("too few examples")
    return len([
        place for place, (row, told) in enumerate(rows)
        if answer(rows[:place] + rows[place + 1:], row, many) != told])


def fewer_examples(examples):
    """Return places of examples, in order of their coming in, that answer all by the nearest alone."""
    rows = check_rows(examples)
    kept = [0]
    count = 0
    while len(kept) > count:
        count = len(kept)
        for place, (row, told) in enumerate(rows):
            # One that is kept may still be answered wrongly, by the same row with another answer: it can't come again.
            if place not in kept and answer([rows[one] for one in kept], row, 1) != told:
                kept.append(place)
    return tuple(kept)


def answers_all(examples, kept):
    """Tell whether kept examples answer all by the nearest alone."""
    rows = check_rows(examples)
    fewer = [rows[place] for place in kept]
    return all([answer(fewer, row, 1) == told for row, told in rows])


def middle_of(rows):
    """Return the sums of rows' parts and how many rows: their middle, as parts of one low."""
    if len(rows) == 0:
        raise BadSize("no rows")
    return tuple([sum([row[place] for row in rows]) for place in range(len(rows[0]))]), len(rows)


def by_middles(examples, row):
    """Return the answer whose examples' middle is nearest, those alike by their answers."""
    rows = check_rows(examples)
    once = {told: True for _, told in rows}
    found = None
    # One by nought is more than any part.
    least = (1, 0)
    for told in sorted(once):
        sums, count = middle_of([known for known, here in rows if here == told])
        # All is counted in parts of the row count, so that the square of the distance is a part of its square.
        top = far(sums, [count * number for number in row])
        if top * least[1] < least[0] * count * count:
            found = told
            least = (top, count * count)
    return found
