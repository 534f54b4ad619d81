"""What the tests make machines and words of; nothing here is left to chance."""

from itertools import product

from lessonwright.machines import Machine, difference, least
from lessonwright.tables import most_words
from lessonwright.teachers import Sly, Teacher


def words_up_to(letters, most):
    """All words of up to so many letters, in order, made without the program."""
    return ["".join(word) for size in range(most + 1) for word in product(sorted(letters), repeat=size)]


def all_machines(size, letters="ab"):
    """All machines of so many states."""
    width = len(letters)
    for flat in product(range(size), repeat=size * width):
        rows = [flat[state * width:(state + 1) * width] for state in range(size)]
        for takes in product((False, True), repeat=size):
            yield Machine(letters, rows, takes)


class Steps:
    """Numbers that look as if by chance, the same each time."""

    def __init__(self, seed):
        self.state = seed

    def below(self, many):
        self.state = (self.state * 1103515245 + 12345) % (1 << 31)
        return (self.state >> 8) % many


def some_machines(count, most_states, letters="ab", seed=1):
    """Some machines of up to so many states."""
    steps = Steps(seed)
    for _ in range(count):
        size = 1 + steps.below(most_states)
        rows = [[steps.below(size) for _ in letters] for _ in range(size)]
        yield Machine(letters, rows, [steps.below(3) == 0 for _ in range(size)])


def words_taken(machine, most):
    """The words of up to so many letters that a machine takes, walked without the program's own walk."""
    found = []
    for word in words_up_to(machine.letters, most):
        state = 0
        for letter in word:
            state = machine.rows[state][machine.letters.index(letter)]
        if machine.takes[state]:
            found.append(word)
    return found


def ends_in_ab():
    """Three states: words that end in "ab"."""
    return Machine("ab", [[1, 0], [1, 2], [1, 0]], [False, False, True])


def even_a():
    """Two states: words with an even number of "a"."""
    return Machine("ab", [[1, 0], [0, 1]], [True, False])


def some_examples(count, many, most, seed=1):
    """Some rows of up to so many told points of so many places; a point may be told both ways."""
    steps = Steps(seed)
    for _ in range(count):
        yield [(tuple(steps.below(2) for _ in range(many)), steps.below(2) == 1) for _ in range(steps.below(most + 1))]


def all_tables(many):
    """All tables of what may be told of the points of so many places, told of all, of some, or of none."""
    points = list(product((0, 1), repeat=many))
    for told in product((None, False, True), repeat=len(points)):
        yield {point: take for point, take in zip(points, told) if take is not None}


def is_tuples(value):
    """Whether a value is a tuple, and all rows within, however deep, are tuples too."""
    return isinstance(value, tuple) and all(
        is_tuples(part) for part in value if isinstance(part, (tuple, list, dict, set)))


class LearnsMachines:
    """The tests that hold of both learners of machines; a test of one tells learned(teacher)."""

    def learn(self, teacher):
        machine, wrong = self.learned(teacher)
        states = teacher.hidden.size()
        self.assertIsInstance(wrong, tuple)
        self.assertIsNone(difference(machine, teacher.hidden))
        self.assertEqual(machine.size(), states)
        self.assertEqual(least(machine).shown(), teacher.hidden.shown())
        self.assertLessEqual(len(wrong), states - 1)
        self.assertEqual(teacher.guesses, len(wrong) + 1)
        longest = max([len(word) for word in wrong] + [0])
        self.assertLessEqual(teacher.words_asked(), most_words(states, len(teacher.letters), longest))
        return machine, wrong

    def test_all_machines_of_two_states(self):
        for size in (1, 2):
            for machine in all_machines(size):
                self.learn(Teacher(machine))

    def test_some_machines(self):
        for machine in list(some_machines(80, 12)) + list(some_machines(30, 8, "abc")):
            self.learn(Teacher(machine))

    def test_sly_words_are_longer(self):
        for machine in some_machines(60, 9, seed=5):
            self.learn(Sly(machine, ["abab", "b", "aab", "", "bbbbbb"]))

    def test_one_state(self):
        for take in (False, True):
            machine = Machine("ab", [[0, 0]], [take])
            found, wrong = self.learn(Teacher(machine))
            self.assertEqual((found.shown(), wrong), (machine.shown(), ()))
