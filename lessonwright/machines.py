"""Machines: states that letters lead between, which take some words, and the least of those alike."""

from lessonwright.errors import BadMachine, BadSize
from lessonwright.words import check_word


class Machine:
    """Letters, a row of next states for each state, and which states take; the first one is nought."""

    def __init__(self, letters, rows, takes):
        self.letters = letters
        self.rows = [tuple(row) for row in rows]
        self.takes = tuple(takes)
        if self.rows == [] or len(self.takes) != len(self.rows):
            raise BadMachine("no states, or not as many takings as rows")
        if not all(is_row(row, len(letters), len(self.rows)) for row in self.rows):
            raise BadMachine("a row of another length, or a state that is not there")

    def step(self, state, letter):
        """Return the state a letter leads to."""
        return self.rows[state][self.letters.index(letter)]

    def state_of(self, word, start=0):
        """Return the state a word leads to; BadWord."""
        check_word(word, self.letters)
        state = start
        for letter in word:
            state = self.step(state, letter)
        return state

    def has(self, word):
        """Tell whether a word is taken; BadWord."""
        return self.takes[self.state_of(word)]

    def size(self):
        """Return how many states there are."""
        return len(self.rows)

    def shown(self):
        """Return (letters, rows, takes)."""
        return self.letters, tuple(self.rows), self.takes


def is_row(row, width, many):
    """Tell whether a row is so wide and leads only to states below so many."""
    return len(row) == width and all(0 <= state < many for state in row)


def first_words(start, letters, step):
    """Return a table of all that words lead to from a start, each with its first word, in order."""
    found = {start: ""}
    level = [start]
    while level != []:
        further = []
        for here in level:
            # Words are ordered by themselves, however the letters stand in their alphabet.
            for letter in sorted(letters):
                there = step(here, letter)
                if there not in found:
                    found[there] = found[here] + letter
                    further.append(there)
        level = further
    return found


def reached(machine):
    """Return a table of the states that words lead to, to the first such word, in the order they are come to."""
    return first_words(0, machine.letters, lambda state, letter: machine.step(state, letter))


def reached_pairs(one, other, start):
    """Return a table of the pairs of states that words lead to from a pair, each with its first word, in order."""
    return first_words(
        start, one.letters, lambda pair, letter: (one.step(pair[0], letter), other.step(pair[1], letter)))


def numbered(signs):
    """Return a number for each sign, alike ones alike, counted by their first places."""
    numbers = {}
    for sign in signs:
        numbers.setdefault(sign, len(numbers))
    return tuple([numbers[sign] for sign in signs])


def parts(machine):
    """Return the number of each state's class: those that no word parts are alike, numbered by their first states."""
    found = ()
    finer = numbered(machine.takes)
    while finer != found:
        found = finer
        finer = numbered([
            (found[state], tuple([found[there] for there in row])) for state, row in enumerate(machine.rows)])
    return found


def least(machine):
    """Return the least machine that takes the same words, states numbered as words come to them in order."""
    classes = parts(machine)
    # The first state come to of each class stands for it.
    first = {}
    for state in reached(machine):
        first.setdefault(classes[state], state)
    numbers = {name: number for number, name in enumerate(first)}
    rows = [[numbers[classes[there]] for there in machine.rows[state]] for state in list(first.values())]
    return Machine(machine.letters, rows, [machine.takes[state] for state in list(first.values())])


def paired(one, other, take):
    """Return the machine of two that go together, taking as a function of both tells; BadMachine for other letters."""
    if one.letters != other.letters:
        raise BadMachine("two machines of other letters")
    numbers = {pair: number for number, pair in enumerate(reached_pairs(one, other, (0, 0)))}
    rows = [
        [numbers[there] for there in zip(one.rows[mine], other.rows[theirs])] for mine, theirs in numbers]
    return Machine(one.letters, rows, [take(one.takes[mine], other.takes[theirs]) for mine, theirs in numbers])


def difference(one, other):
    """Return the first word, in order, that one of two machines takes and the other doesn't, None for none."""
    return first_word(paired(one, other, lambda mine, theirs: mine != theirs))


def turned(machine):
    """Return the machine that takes just the other words."""
    return Machine(machine.letters, machine.rows, [not take for take in machine.takes])


def first_word(machine):
    """Return the first word, in order, that a machine takes, None for none."""
    for state, word in reached(machine).items():
        if machine.takes[state]:
            return word
    return None


def counts(machine, most):
    """Return how many words of each length up to so many letters are taken."""
    if most < 0:
        raise BadSize("a length below nought")
    ways = [0] * machine.size()
    ways[0] = 1
    found = []
    for _ in range(most + 1):
        found.append(sum([many for many, take in zip(ways, machine.takes) if take]))
        ways = further_ways(machine, ways)
    return tuple(found)


def further_ways(machine, ways):
    """Return in how many ways each state is come to by one letter more."""
    found = [0] * machine.size()
    for many, row in zip(ways, machine.rows):
        for there in row:
            found[there] += many
    return found


def parting_words(machine):
    """Return, for each two states of a least machine, the lower first, the first word that parts them."""
    states = range(machine.size())
    pairs = [(one, other) for one in states for other in states]
    found = {pair: "" for pair in pairs if machine.takes[pair[0]] != machine.takes[pair[1]]}
    longer = found
    while longer != {}:
        longer = longer_parting(machine, [pair for pair in pairs if pair not in found], found)
        found.update(longer)
    return {(one, other): found.get((one, other)) for one, other in pairs if one < other}


def longer_parting(machine, pairs, found):
    """Return a table of the pairs that a letter leads to parted ones, each with its first such word."""
    longer = {}
    for one, other in pairs:
        # The first letter is enough: all words found so far that it may lead to are of one length.
        for letter in sorted(machine.letters):
            there = (machine.step(one, letter), machine.step(other, letter))
            if there in found:
                longer.setdefault((one, other), letter + found[there])
    return longer


def parting(machine, one, other):
    """Return the first word, in order, that is taken from one of two states and not from the other, None for none."""
    for (mine, theirs), word in reached_pairs(machine, machine, (one, other)).items():
        if machine.takes[mine] != machine.takes[theirs]:
            return word
    return None
