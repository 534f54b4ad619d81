"""Sides: weights that part points by the sign of a sum, the mistakes on the way, and who shows that none part them."""

from lessonwright.errors import BadPaper, BadSize


def inner(one, other):
    """Return the sum of two rows' products."""
    return sum([mine * theirs for mine, theirs in zip(one, other)])


def check_signed(examples):
    """Return examples, (row, 1 or -1), rows of one length; BadSize for others."""
    found = [(tuple(row), sign) for row, sign in examples]
    if any(sign not in (1, -1) or len(row) != len(found[0][0]) for row, sign in found):
        raise BadSize("another sign, or rows of unlike lengths")
    return found


class Parter:
    """Weights, nought at first, and the mistakes made."""

    def __init__(self, many):
        self.weights = (0,) * many
        self.mistakes = 0

    def sign(self, row):
        """Return one where the weights' sum with a row is above nought, else minus one."""
        return 1 if inner(self.weights, row) > 0 else -1

    def see(self, row, sign):
        """Take a row in where the weights are on its wrong side, or on the edge; return whether they were."""
        if sign * inner(self.weights, row) > 0:
            return False
        self.weights = tuple([weight + sign * part for weight, part in zip(self.weights, row)])
        self.mistakes += 1
        return True


def parted(examples, most=2000):
    """Return weights that have all examples strictly on their sides, None past so many mistakes."""
    rows = check_signed(examples)
    parter = Parter(len(rows[0][0]) if rows != [] else 0)
    is_wrong = rows != []
    while is_wrong and parter.mistakes <= most:
        # All are seen before any is asked about: a round ends with the last example.
        is_wrong = any([parter.see(row, sign) for row, sign in rows])
    return None if is_wrong else parter.weights


def margin(examples, weights):
    """Return the least of the signed sums, None for no examples."""
    return min([sign * inner(row, weights) for row, sign in check_signed(examples)], default=None)


def check_parted(examples, weights):
    """Return the margin of weights that part examples; BadPaper where it isn't above nought."""
    found = margin(examples, weights)
    if found is not None and found <= 0:
        raise BadPaper("an example that is not on its side")
    return found


def side_bound(mistakes, examples, weights):
    """Tell whether mistakes are no more than the greatest row's square by weights' square, by the margin's square."""
    least = margin(examples, weights)
    if least is None:
        return mistakes == 0
    greatest = max([inner(row, row) for row, _ in check_signed(examples)])
    return mistakes * least * least <= greatest * inner(weights, weights)


def signed_rows(examples):
    """Return the rows of examples, each by its sign."""
    return [tuple([sign * part for part in row]) for row, sign in check_signed(examples)]


def check_mixed(examples, shares):
    """Return True where shares, not all nought, none below, make the signed rows nothing: none part them; BadPaper."""
    rows = signed_rows(examples)
    if len(shares) != len(rows) or any(share < 0 for share in shares) or sum(shares) == 0:
        raise BadPaper("not as many shares as rows, a share below nought, or none above")
    if any(part != 0 for part in mixed_row(rows, shares)):
        raise BadPaper("shares that do not make the rows nothing")
    return True


def mixed_row(rows, shares):
    """Return the sum of rows, each by its share; a bare row for none."""
    if rows == []:
        return ()
    return tuple([inner(shares, [row[place] for row in rows]) for place in range(len(rows[0]))])


def mixed_away(examples, most=3):
    """Return the first whole shares up to so many that make the signed rows nothing, None for none."""
    rows = signed_rows(examples)
    return first_shares(rows, most, (0,) * len(rows[0]), False) if rows != [] else None


def first_shares(rows, most, sums, is_some):
    """Return the first shares by which rows bring sums to nought, None for none; is_some: there is a share already."""
    if rows == []:
        return () if is_some and not any(sums) else None
    if not may_vanish(rows, most, sums):
        return None
    for share in range(most + 1):
        more = tuple([whole + share * part for whole, part in zip(sums, rows[0])])
        rest = first_shares(rows[1:], most, more, is_some or share != 0)
        if rest is not None:
            return (share, *rest)
    return None


def may_vanish(rows, most, sums):
    """Tell whether each sum by itself is in reach of nought by rows with shares up to so many."""
    for place, whole in enumerate(sums):
        parts = [row[place] for row in rows]
        low = whole + most * sum([min(part, 0) for part in parts])
        high = whole + most * sum([max(part, 0) for part in parts])
        if low > 0 or high < 0:
            return False
    return True


def lifted(row):
    """Return a row with a one behind, so that weights may have an edge anywhere."""
    return (*row, 1)


def squared(row):
    """Return a row's parts and all products of two of them, a part by itself too, in order."""
    places = range(len(row))
    products = [row[one] * row[other] for one in places for other in places if one <= other]
    return (*row, *products)
