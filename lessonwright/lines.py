"""Lines: the numbers that come closest to told ones: by squares with exact parts, rising, or in the middle."""

from lessonwright.errors import BadPaper, BadSize
from lessonwright.experts import small
from lessonwright.sides import inner


def part(top, low):
    """Return a part made small, its low above nought; BadSize for a low of nought."""
    if low == 0:
        raise BadSize("a low of nought")
    return small(top, low) if low > 0 else small(-top, -low)


def plus(one, other):
    """Return the sum of two parts."""
    return part(one[0] * other[1] + other[0] * one[1], one[1] * other[1])


def times(one, other):
    """Return the product of two parts."""
    return part(one[0] * other[0], one[1] * other[1])


def minus(one, other):
    """Return the difference of two parts."""
    return plus(one, (-other[0], other[1]))


def product_of(parts, numbers):
    """Return the sum of parts, each by its whole number."""
    whole = (0, 1)
    for one, number in zip(parts, numbers):
        whole = plus(whole, times(one, (number, 1)))
    return whole


def solved(rows, tops):
    """Return the only parts by which rows of parts make tops, None where they aren't the only ones, or none."""
    many = len(rows[0]) if len(rows) > 0 else 0
    left = [[*row, top] for row, top in zip(rows, tops)]
    found = []
    for place in range(many):
        good = [row for row in left if row[place][0] != 0]
        if good == []:
            return None
        lead = scaled(good[0], place)
        found = [cleared(row, lead, place) for row in found] + [lead]
        # The row itself becomes nothing by this, and asks for nothing any more.
        left = [cleared(row, lead, place) for row in left]
    if any(row[many][0] != 0 for row in left):
        return None
    return tuple([row[many] for row in found])


def scaled(row, place):
    """Return a row of parts by its part at a place, so that a one stands there."""
    top, low = row[place]
    return [times(one, (low, top)) for one in row]


def cleared(row, lead, place):
    """Return a row of parts less so much of a leading one that nothing is left at a place."""
    return [minus(mine, times(row[place], theirs)) for mine, theirs in zip(row, lead)]


def closest(examples):
    """Return the weights, parts, by which the squares of what is missed are least; None where not the only ones."""
    rows = [tuple(row) for row, _ in examples]
    if rows == [] or any(len(row) != len(rows[0]) for row in rows):
        raise BadSize("no examples, or rows of unlike lengths")
    # What is missed has no share in any place: a row for each place asks for this.
    columns = [[row[place] for row in rows] for place in range(len(rows[0]))]
    told = [number for _, number in examples]
    return solved([[share(one, other) for other in columns] for one in columns], [share(one, told) for one in columns])


def share(one, other):
    """Return the sum of two rows' products, as a part."""
    return inner(one, other), 1


def missed(examples, weights):
    """Return what weights miss each example by, as parts."""
    # What weights say, less what is told: above nought where they say too much.
    return tuple([plus((-told, 1), product_of(weights, row)) for row, told in examples])


def squares(parts):
    """Return the sum of parts' squares."""
    whole = (0, 1)
    for one in parts:
        whole = plus(whole, times(one, one))
    return whole


def check_closest(examples, weights):
    """Return the squares missed where what is missed has no share in any place: then no weights miss less; BadPaper."""
    if any(len(row) != len(weights) for row, _ in examples):
        raise BadPaper("not a weight for each place")
    left = missed(examples, weights)
    for place in range(len(weights)):
        if product_of(left, [row[place] for row, _ in examples])[0] != 0:
            raise BadPaper("a place that what is missed has a share in")
    return squares(left)


def rising(numbers):
    """Return the rising parts closest to numbers by squares: blocks' middles, put together while one falls."""
    blocks = []
    for number in numbers:
        block = (number, 1)
        while blocks != [] and block[0] * blocks[-1][1] < blocks[-1][0] * block[1]:
            before = blocks.pop()
            block = (before[0] + block[0], before[1] + block[1])
        blocks.append(block)
    return tuple([part(whole, count) for whole, count in blocks for _ in range(count)])


def check_rising(numbers, parts):
    """Return the squares missed where parts rise, blocks miss nothing and no beginning of one is below; BadPaper."""
    if len(parts) != len(numbers):
        raise BadPaper("not a part for each number")
    left = [minus((number, 1), one) for number, one in zip(numbers, parts)]
    whole = (0, 1)
    for place, miss in enumerate(left):
        step = minus(parts[place], parts[place - 1]) if place > 0 else (0, 1)
        if step[0] < 0:
            raise BadPaper("parts that fall")
        # A block ends where its parts do.
        if step[0] > 0 and whole[0] != 0:
            raise BadPaper("a part that is not its block's middle")
        whole = plus(whole, miss)
        if whole[0] < 0:
            raise BadPaper("a beginning of a block that is below its middle")
    if whole[0] != 0:
        raise BadPaper("a part that is not its block's middle")
    return squares(left)


def middle(numbers):
    """Return the lower middle one of numbers: none is nearer to all in all; BadSize for none."""
    ranked = sorted(numbers)
    if ranked == []:
        raise BadSize("no numbers")
    return ranked[(len(ranked) - 1) // 2]


def distance(numbers, one):
    """Return how far numbers are from one in all."""
    return sum([abs(number - one) for number in numbers])
