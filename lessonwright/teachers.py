"""Teachers: who answers whether a word is taken, and whether a guess is right, and counts the questions."""

from lessonwright.errors import BadExample
from lessonwright.machines import Machine, difference, least


class Teacher:
    """A hidden machine, and how many questions of each kind were asked."""

    def __init__(self, machine):
        self.letters = machine.letters
        self.hidden = least(machine)
        self.asked = {}
        self.guesses = 0

    def has(self, word):
        """Answer whether a word is taken; each word counts once."""
        if word not in self.asked:
            self.asked[word] = self.hidden.has(word)
        return self.asked[word]

    def wrong_at(self, guess):
        """Answer a guess: the first word it is wrong at, None for none."""
        word = difference(self.hidden, guess)
        self.guesses += 1
        return word

    def words_asked(self):
        """Return how many words were asked."""
        return len(self.asked)


class Sly(Teacher):
    """A teacher who answers a guess with a word made longer, as it likes, that is still wrong."""

    def __init__(self, machine, tails):
        super().__init__(machine)
        self.tails = list(tails)

    def wrong_at(self, guess):
        """Answer a guess: the first wrong word, or it with the next tail behind if that is wrong, too."""
        answer = difference(self.hidden, guess)
        if answer is not None and self.tails != []:
            longer = answer + self.tails[0]
            # Both are asked ahead of any change, for a tail of other letters is refused here.
            if self.hidden.has(longer) != guess.has(longer):
                answer = longer
            self.tails = self.tails[1:]
        self.guesses += 1
        return answer


def from_examples(letters, examples):
    """Return a table of words to whether they are taken; BadExample for one told both ways."""
    found = {}
    for word, take in examples:
        if found.get(word, take) != take:
            raise BadExample("a word told both ways")
        found[word] = take
    if any(letter not in letters for word in found for letter in word):
        raise BadExample("a letter that is not of the alphabet")
    return found


def agrees(machine, table):
    """Tell whether a machine takes just the words that a table says are taken."""
    return mistakes(machine, table) == ()


def mistakes(machine, table):
    """Return the words of a table that a machine is wrong at, in the table's order."""
    return tuple([word for word, take in table.items() if machine.has(word) != take])


def no_words(letters):
    """Return the machine that takes no word."""
    return Machine(letters, [[0] * len(letters)], [False])
