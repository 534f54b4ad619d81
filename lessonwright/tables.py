"""Tables: a learner that fills rows of words with the teacher's answers until they make a machine that is right."""

from lessonwright.errors import BadSize
from lessonwright.machines import Machine
from lessonwright.words import beginnings, in_order


class Table:
    """Beginnings, ends, and the teacher who fills the rows."""

    def __init__(self, teacher):
        self.teacher = teacher
        self.letters = teacher.letters
        self.starts = [""]
        self.ends = [""]

    def row(self, word):
        """Return the answers of a word with each end behind."""
        return tuple([self.teacher.has(word + end) for end in self.ends])

    def outer(self):
        """Return the beginnings with a letter more that are no beginnings themselves, in order."""
        longer = [start + letter for start in self.starts for letter in self.letters]
        return [word for word in in_order(longer) if word not in self.starts]

    def open_word(self):
        """Return the first outer word whose row no beginning has, None for none."""
        rows = {self.row(start): True for start in self.starts}
        for word in self.outer():
            if self.row(word) not in rows:
                return word
        return None

    def split_end(self):
        """Return an end that parts two beginnings of one row by the letter behind them, None for none."""
        groups = {}
        for start in self.starts:
            groups.setdefault(self.row(start), []).append(start)
        # Where all of a row go with its first one, any two of them go together.
        for first, *others in list(groups.values()):
            for other in others:
                end = self.end_between(first, other)
                if end is not None:
                    return end
        return None

    def end_between(self, one, other):
        """Return the first letter and end that part two words, None for none."""
        for letter in sorted(self.letters):
            for end in self.ends:
                if self.teacher.has(one + letter + end) != self.teacher.has(other + letter + end):
                    return letter + end
        return None

    def settle(self):
        """Add beginnings and ends until all outer rows are there and no row is split."""
        while True:
            word = self.open_word()
            end = self.split_end() if word is None else None
            if word is not None:
                self.starts.append(word)
            elif end is not None:
                self.ends.append(end)
            else:
                return

    def guess(self):
        """Return the machine of a settled table: a state for each row, in the order of the beginnings."""
        first = {}
        for start in self.starts:
            first.setdefault(self.row(start), start)
        numbers = {row: number for number, row in enumerate(first)}
        words = list(first.values())
        rows = [[numbers[self.row(word + letter)] for letter in self.letters] for word in words]
        return Machine(self.letters, rows, [self.teacher.has(word) for word in words])

    def take_in(self, word):
        """Take all beginnings of a word among the beginnings, in order."""
        for start in beginnings(word):
            if start not in self.starts:
                self.starts.append(start)


def learned_by_table(teacher, most=60):
    """Return (the machine learned, the words that guesses were wrong at, in order); BadSize past so many guesses."""
    table = Table(teacher)
    wrong = []
    for _ in range(most):
        table.settle()
        guess = table.guess()
        word = teacher.wrong_at(guess)
        if word is None:
            return guess, tuple(wrong)
        wrong.append(word)
        table.take_in(word)
    raise BadSize("too many guesses")


def most_words(states, letters, longest):
    """Return a number of words no fewer than either learner asks: of so many states, so many letters, the longest
    wrong word of so many."""
    # Beginnings are one to a state and those of one wrong word to each further state; ends are one to a state.
    starts = states + (states - 1) * longest
    return starts * (1 + letters) * states


def table_words(table):
    """Return all words whose answers a table has, in order."""
    return in_order([word + end for word in table.starts + table.outer() for end in table.ends])
