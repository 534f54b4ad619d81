"""Parted: papers that show that no machine with fewer states agrees, by words and ends that part them."""

from lessonwright.errors import BadPaper
from lessonwright.machines import difference, least, parting_words, reached, reached_pairs
from lessonwright.words import in_order


def paper(machine):
    """Return (words, ends): a word to each state of the least machine, and ends that part any two of them."""
    small = least(machine)
    words = tuple(list(reached(small).values()))
    return words, in_order(list(parting_words(small).values()))


def rows_of(has, words, ends):
    """Return, for each word, the row of what is said of it with each end behind."""
    return [tuple([has(word + end) for end in ends]) for word in words]


def is_parted(rows):
    """Tell whether no two rows are alike."""
    return len({row: True for row in rows}) == len(rows)


def check_paper(has, papers):
    """Return how many states any machine that agrees has at least: any two words are parted by some end; BadPaper."""
    words, ends = papers
    if not is_parted(rows_of(has, words, ends)):
        raise BadPaper("two words that no end parts")
    return len(words)


def check_least(machine, has, papers):
    """Return True where a machine has no more states than words are parted and agrees on them all; BadPaper."""
    words, ends = papers
    if check_paper(has, papers) != machine.size():
        raise BadPaper("another count of states than of parted words")
    if rows_of(has, words, ends) != rows_of(machine.has, words, ends):
        raise BadPaper("a machine that does not agree")
    return True


def check_same(one, other, pairs):
    """Return True where pairs of states, each with the same taking and all its next ones, show two machines alike."""
    known = {(mine, theirs): True for mine, theirs in pairs}
    if sorted(one.letters) != sorted(other.letters):
        raise BadPaper("two machines of other letters")
    if (0, 0) not in known:
        raise BadPaper("the first states are no pair")
    for mine, theirs in known:
        if not are_alike(one, other, mine, theirs):
            raise BadPaper("a pair that is not alike")
        for letter in one.letters:
            if (one.step(mine, letter), other.step(theirs, letter)) not in known:
                raise BadPaper("pairs that are not closed")
    return True


def are_alike(one, other, mine, theirs):
    """Tell whether two states are there and take alike."""
    return 0 <= mine < one.size() and 0 <= theirs < other.size() and one.takes[mine] == other.takes[theirs]


def same_pairs(one, other):
    """Return the pairs of states that words lead to, in order, where two machines take the same words; BadPaper."""
    if one.letters != other.letters or difference(one, other) is not None:
        raise BadPaper("two machines that are not alike")
    return tuple(list(reached_pairs(one, other, (0, 0))))


def fewer_ends(machine, papers):
    """Return a paper with ends left out: each is tried, the last first, and stays where words aren't parted without
    it."""
    words, ends = papers
    left = list(ends)
    for place in reversed(range(len(left))):
        fewer = left[:place] + left[place + 1:]
        if is_parted(rows_of(machine.has, words, fewer)):
            left = fewer
    return tuple(words), tuple(left)
