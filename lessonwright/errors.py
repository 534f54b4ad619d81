"""The errors of lessonwright: all stand under LearnFault, a ValueError."""


class LearnFault(ValueError):
    """What lessonwright refuses."""


class BadWord(LearnFault):
    """A word with a letter that isn't of the alphabet."""


class BadMachine(LearnFault):
    """A machine that can't be: a state or letter that isn't there."""


class BadFormula(LearnFault):
    """A formula or tree that can't be."""


class BadExample(LearnFault):
    """An example that can't be, or examples that gainsay each other."""


class BadPaper(LearnFault):
    """A paper that doesn't show what it is to show."""


class BadSize(LearnFault):
    """A count or number that is out of bounds."""


class BadText(LearnFault):
    """A text that isn't one of the language."""


class BadStore(LearnFault):
    """Kept words that aren't whole."""


class NoSuch(LearnFault):
    """What isn't there."""
