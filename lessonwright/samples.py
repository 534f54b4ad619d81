"""Samples: machines from told words: beginnings whose states are put together, and the least that agrees."""

from lessonwright.errors import BadSize
from lessonwright.machines import Machine
from lessonwright.words import all_beginnings, check_word, key


class Merge:
    """Beginnings of words, which of them stand for one state, and what each state is told of taking."""

    def __init__(self, letters, table):
        self.letters = letters
        # The bare word is there even where no word is told, for a machine begins with it.
        self.words = all_beginnings(["", *table])
        self.owner = {word: word for word in self.words}
        self.told = dict(table)

    def root(self, word):
        """Return the first word of a word's state."""
        return self.owner[word]

    def copy(self):
        """Return another one that may be changed by itself."""
        other = Merge(self.letters, {})
        other.words = self.words
        other.owner = dict(self.owner)
        other.told = dict(self.told)
        return other

    def next_of(self, word, letter):
        """Return the first word of the state that a letter leads to, None for none told."""
        root = self.owner[word]
        for member, owner in self.owner.items():
            if owner == root and member + letter in self.owner:
                return self.owner[member + letter]
        return None

    def put_together(self, one, other):
        """Put two words' states together, and what they lead to; return whether nothing gainsays it."""
        trial = self.copy()
        # A row of what is still to be done, not calls within calls: words may be long.
        pairs = [(one, other)]
        while pairs != []:
            mine, theirs = pairs.pop()
            first, second = sorted([trial.root(mine), trial.root(theirs)], key=key)
            if first != second:
                if not are_told_alike(trial.told, first, second):
                    return False
                pairs.extend(next_pairs(trial, first, second))
                tie(trial, first, second)
        self.owner = trial.owner
        self.told = trial.told
        return True

    def machine(self):
        """Return the machine of the states, one more for what isn't told, which takes nothing, if it is needed."""
        states = [word for word in self.words if self.owner[word] == word]
        numbers = {word: number for number, word in enumerate(states)}
        # What isn't told leads to the state behind all others.
        rows = [
            [numbers.get(self.next_of(word, letter), len(states)) for letter in self.letters] for word in states]
        takes = [self.told.get(word, False) for word in states]
        if any(len(states) in row for row in rows):
            rows.append([len(states)] * len(self.letters))
            takes.append(False)
        return Machine(self.letters, rows, takes)


def are_told_alike(told, first, second):
    """Tell whether what is told of two words isn't both ways."""
    return first not in told or second not in told or told[first] == told[second]


def next_pairs(merge, first, second):
    """Return the pairs of words that a letter leads to from both of two states."""
    found = []
    for letter in merge.letters:
        mine = merge.next_of(first, letter)
        theirs = merge.next_of(second, letter)
        if mine is not None and theirs is not None:
            found.append((mine, theirs))
    return found


def tie(merge, first, second):
    """Make the words of a second state those of the first, and what is told of it, too."""
    merge.owner = {word: first if owner == second else owner for word, owner in merge.owner.items()}
    if second in merge.told:
        merge.told[first] = merge.told.pop(second)


def merged(letters, table):
    """Return the machine of words told: each state, in order, put together with the first kept one it may be."""
    merge = Merge(letters, table)
    kept = []
    for word in merge.words:
        if merge.root(word) == word:
            merge = placed(merge, kept, word)
            if merge.root(word) == word:
                kept.append(word)
    return merge.machine()


def placed(merge, kept, word):
    """Return states in which a word is put together with the first kept one that it may be, else as they are."""
    for first in kept:
        trial = merge.copy()
        if trial.put_together(first, word):
            return trial
    return merge


def least_agreeing(letters, table, most=4):
    """Return a machine of the fewest states, up to so many, that agrees with a table: the first by rows; BadSize."""
    for size in range(1, most + 1):
        found = search(letters, table, size, [], [])
        if found is not None:
            return found
    raise BadSize("too many states")


def search(letters, table, size, flat, takes):
    """Return the first machine of a size that agrees, by rows and then by takings; None for none."""
    # What is handed in is where the machine begins: its rows one behind another, and its takings, None where not known.
    for word in table:
        check_word(word, letters)
    told = told_takes(letters, table, flat, takes)
    if told is None:
        return None
    if len(flat) >= size * len(letters):
        rows = [flat[state * len(letters):(state + 1) * len(letters)] for state in range(size)]
        return Machine(letters, rows, [told.get(state, False) for state in range(size)])
    # A state that has not come yet comes behind all that have.
    for state in range(min(size, max([0, *flat]) + 2)):
        found = search(letters, table, size, [*flat, state], takes)
        if found is not None:
            return found
    return None


def told_takes(letters, table, flat, takes):
    """Return a table of states to their takings, as far as takings and words of known ways tell, None for both ways."""
    told = {state: take for state, take in enumerate(takes) if take is not None}
    for word, take in table.items():
        state = end_of_way(letters, flat, word)
        if state is not None:
            if told.get(state, take) != take:
                return None
            told[state] = take
    return told


def end_of_way(letters, flat, word):
    """Return the state a word leads to by rows one behind another, None where a row on its way isn't there yet."""
    state = 0
    for letter in word:
        place = state * len(letters) + letters.index(letter)
        if place >= len(flat):
            return None
        state = flat[place]
    return state


def with_takes(letters, table, rows):
    """Return the machine of rows with takings as a table tells them, none told not; None where it gainsays itself."""
    bare = Machine(letters, rows, [False] * len(rows))
    told = {}
    for word, take in table.items():
        state = bare.state_of(word)
        if told.get(state, take) != take:
            return None
        told[state] = take
    return Machine(letters, rows, [told.get(state, False) for state in range(len(rows))])
