"""Words: letters one behind another, in the order by length, then by letters."""

from lessonwright.errors import BadSize, BadWord

MOST_WORDS = 5000


def check_word(word, letters):
    """Return a word of some letters; BadWord."""
    if any(letter not in letters for letter in word):
        raise BadWord("a letter that is not of the alphabet")
    return word


def key(word):
    """Return what words are ordered by: their length, then themselves."""
    return len(word), word


def in_order(words):
    """Return words each once, in order."""
    once = {word: True for word in words}
    return tuple(sorted(once, key=key))


def all_words(letters, most):
    """Return all words of up to so many letters, in order; BadSize for more than five thousand."""
    found = [""]
    last = [""]
    for _ in range(most):
        # Counted ahead, so that what is refused is never made.
        if len(found) + len(last) * len(letters) > MOST_WORDS:
            raise BadSize("too many words")
        last = [word + letter for word in last for letter in sorted(letters)]
        found.extend(last)
    return tuple(found)


def beginnings(word):
    """Return all beginnings of a word, the bare one first."""
    return tuple([word[:end] for end in range(len(word) + 1)])


def endings(word):
    """Return all ends of a word, the bare one first."""
    return tuple([word[len(word) - size:] for size in range(len(word) + 1)])


def all_beginnings(words):
    """Return all beginnings of words, each once, in order."""
    return in_order([start for word in words for start in beginnings(word)])


def is_closed_by_beginnings(words):
    """Tell whether each word's beginnings are there, too."""
    known = {word: True for word in words}
    return all(start in known for start in all_beginnings(known))


def number_of(word, letters):
    """Return a word's number among all words in order, the bare one nought."""
    ranked = sorted(letters)
    number = 0
    for letter in word:
        number = number * len(ranked) + ranked.index(letter) + 1
    return number


def by_number(number, letters):
    """Return the word of a number; BadSize below nought."""
    if number < 0:
        raise BadSize("a number below nought")
    ranked = sorted(letters)
    word = ""
    left = number
    while left > 0:
        # Each length's words begin behind all shorter ones, so one less is divided, not the number.
        left, place = divmod(left - 1, len(ranked))
        word = ranked[place] + word
    return word
