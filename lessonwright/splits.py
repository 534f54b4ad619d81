"""Splits: a learner with a tree of parting ends, that finds in each wrong word the one place where it went wrong."""

from lessonwright.errors import BadSize
from lessonwright.machines import Machine


class Leaf:
    """A state's first word."""

    def __init__(self, word):
        self.word = word


class Fork:
    """An end, and the trees of words that are taken with it behind, and that aren't."""

    def __init__(self, end, taken, left):
        self.end = end
        self.taken = taken
        self.left = left


class Splitter:
    """The tree, the states' words, and the teacher."""

    def __init__(self, teacher):
        self.teacher = teacher
        self.letters = teacher.letters
        self.words = [""]
        self.tree = Leaf("")

    def sift(self, word):
        """Return the state's word that a word falls to."""
        tree = self.tree
        while isinstance(tree, Fork):
            tree = tree.taken if self.teacher.has(word + tree.end) else tree.left
        return tree.word

    def guess(self):
        """Return the machine whose states are the words, in order of their coming."""
        numbers = {word: number for number, word in enumerate(self.words)}
        rows = [[numbers[self.sift(word + letter)] for letter in self.letters] for word in self.words]
        return Machine(self.letters, rows, [self.teacher.has(word) for word in self.words])

    def spot(self, guess, word):
        """Return the place of a wrong word up to which the guess's own words behave as it, by halves."""
        right = self.teacher.has(word)
        low = 0
        high = len(word)
        while high - low > 1:
            middle = (low + high) // 2
            own = self.words[guess.state_of(word[:middle])]
            if self.teacher.has(own + word[middle:]) == right:
                low = middle
            else:
                high = middle
        return low

    def split(self, guess, word):
        """Make a state of what a wrong word shows: the word at the place and its letter, parted by the rest."""
        place = self.spot(guess, word)
        state = guess.state_of(word[:place])
        old = self.words[guess.state_of(word[:place + 1])]
        new = self.words[state] + word[place]
        end = word[place + 1:]
        if self.teacher.has(new + end):
            fork = Fork(end, Leaf(new), Leaf(old))
        else:
            fork = Fork(end, Leaf(old), Leaf(new))
        self.words.append(new)
        self.tree = put(self.tree, old, fork)


def put(tree, word, fork):
    """Return a tree with a fork in the place of a word's leaf."""
    if isinstance(tree, Leaf):
        return fork if tree.word == word else tree
    return Fork(tree.end, put(tree.taken, word, fork), put(tree.left, word, fork))


def learned_by_splits(teacher, most=60):
    """Return (the machine learned, the wrong words, in order); BadSize past so many guesses."""
    splitter = Splitter(teacher)
    wrong = []
    for _ in range(most):
        guess = splitter.guess()
        word = teacher.wrong_at(guess)
        if word is None:
            return guess, tuple(wrong)
        wrong.append(word)
        splitter.split(guess, word)
    raise BadSize("too many guesses")


def ends_of(tree):
    """Return a tree's ends, forks ahead of what is below, taken ones first."""
    if isinstance(tree, Leaf):
        return ()
    return (tree.end,) + ends_of(tree.taken) + ends_of(tree.left)


def leaves(tree):
    """Return a tree's words, taken ones first."""
    if isinstance(tree, Leaf):
        return (tree.word,)
    return leaves(tree.taken) + leaves(tree.left)


def split_depth(tree):
    """Return the most ends a word is asked with."""
    if isinstance(tree, Leaf):
        return 0
    return 1 + max(split_depth(tree.taken), split_depth(tree.left))
