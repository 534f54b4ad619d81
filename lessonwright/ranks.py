"""Ranks: words weighed by sums over states, and the fewest states that weigh them all right, by a table's rank."""

from lessonwright.errors import BadMachine, BadSize
from lessonwright.experts import common
from lessonwright.lines import plus, solved, times
from lessonwright.sides import inner
from lessonwright.words import all_words, check_word


class Weigher:
    """Letters, first weights, a table of letters to squares of weights, and last weights: whole numbers."""

    def __init__(self, letters, first, squares, last):
        self.letters = letters
        self.first = tuple(first)
        self.last = tuple(last)
        if any(letter not in squares for letter in letters):
            raise BadMachine("a letter without a square")
        self.squares = {letter: tuple([tuple(row) for row in squares[letter]]) for letter in letters}
        size = len(self.first)
        if len(self.last) != size or not all([is_square(rows, size) for rows in list(self.squares.values())]):
            raise BadMachine("no square, or not as many last weights as first ones")

    def weight(self, word):
        """Return what a word weighs."""
        return inner(head_of(self, word), self.last)

    def size(self):
        """Return how many states there are."""
        return len(self.first)


def is_square(rows, size):
    """Tell whether there are so many rows, each of so many weights."""
    return len(rows) == size and all(len(row) == size for row in rows)


def head_of(weigher, word):
    """Return what each state weighs behind a word: the first weights, led on by its letters."""
    found = weigher.first
    for letter in check_word(word, weigher.letters):
        square = weigher.squares[letter]
        found = tuple([inner(found, [row[state] for row in square]) for state in range(len(found))])
    return found


def tail_of(weigher, word):
    """Return what a word weighs from each state on: the last weights, led back by its letters."""
    found = weigher.last
    for letter in reversed(check_word(word, weigher.letters)):
        found = tuple([inner(row, found) for row in weigher.squares[letter]])
    return found


def free_places(rows):
    """Return the places of rows of whole numbers that can't be made of those ahead."""
    found = []
    known = []
    for place, row in enumerate(rows):
        left = list(row)
        for lead, other in known:
            left = cleared_at(left, other, lead)
        leads = [here for here, number in enumerate(left) if number != 0]
        if leads != []:
            known.append((leads[0], left))
            found.append(place)
    return found


def cleared_at(row, other, lead):
    """Return a row by whole numbers, less another one by whole numbers, so that nought stands at a lead; made small."""
    left = [mine * other[lead] - theirs * row[lead] for mine, theirs in zip(row, other)]
    both = 0
    for number in left:
        both = common(both, number)
    return [number // both for number in left] if both > 1 else left


def rank(rows):
    """Return how many of rows of whole numbers can't be made of the others: their rank."""
    return len(free_places(rows))


def table(weight, starts, ends):
    """Return the rows of what beginnings with ends behind weigh."""
    return [tuple([weight(start + end) for end in ends]) for start in starts]


def row_table(weigher, starts, ends):
    """Return the rows of what a weigher's beginnings with ends behind weigh."""
    # Each beginning and each end is led through the states once, not again for each of the others.
    tails = [tail_of(weigher, end) for end in ends]
    heads = [head_of(weigher, start) for start in starts]
    return [tuple([inner(head, tail) for tail in tails]) for head in heads]


def few_words(weigher):
    """Return the words of fewer letters than a weigher has states: what they tell of its table is all there is."""
    return all_words(weigher.letters, weigher.size() - 1)


def rank_of(weigher):
    """Return the rank of a weigher's whole table: that of words of fewer letters than it has states."""
    words = few_words(weigher)
    return rank(row_table(weigher, words, words))


def free_starts(weigher, starts, ends):
    """Return the first beginnings, in order, whose rows can't be made of those ahead."""
    return [starts[place] for place in free_places(row_table(weigher, starts, ends))]


def mixed(rows, row):
    """Return the parts by which free rows make a row, None where they don't."""
    if rank(rows) < len(rows):
        raise BadSize("rows that are not free")
    columns = [[(one[place], 1) for one in rows] for place in range(len(row))]
    return solved(columns, [(number, 1) for number in row])


class Learned:
    """A weigher with the fewest states that weighs as another: parts by the free beginnings' rows."""

    def __init__(self, weigher):
        words = few_words(weigher)
        self.letters = weigher.letters
        self.starts = free_starts(weigher, words, words)
        rows = row_table(weigher, self.starts, words)
        self.first = mixed(rows, row_table(weigher, [""], words)[0])
        self.steps = {
            letter: tuple([
                mixed(rows, row) for row in row_table(weigher, [start + letter for start in self.starts], words)])
            for letter in self.letters}
        self.last = [(weigher.weight(start), 1) for start in self.starts]

    def weight(self, word):
        """Return what a word weighs, a part."""
        found = self.first
        for letter in check_word(word, self.letters):
            rows = self.steps[letter]
            found = [total([times(share, row[state]) for share, row in zip(found, rows)]) for state in range(len(rows))]
        return total([times(share, last) for share, last in zip(found, self.last)])

    def size(self):
        """Return how many states there are."""
        return len(self.starts)


def total(parts):
    """Return the sum of parts."""
    found = (0, 1)
    for one in parts:
        found = plus(found, one)
    return found
