"""What values are: integers, words, and tuples and dicts of these."""

MOST_LETTERS = 8


def is_integer(value):
    """Whether any value is an int that is not a bool."""
    return isinstance(value, int) and not isinstance(value, bool)


def is_word(value):
    """Whether any value is a string of one to eight letters from a to z."""
    if not isinstance(value, str) or not 1 <= len(value) <= MOST_LETTERS:
        return False
    return all(["a" <= letter <= "z" for letter in value])


def is_integers(value, many):
    """Whether any value is a tuple of so many integers."""
    if not isinstance(value, tuple) or len(value) != many:
        return False
    return all([is_integer(entry) for entry in value])


def is_weights(value):
    """Whether any value is a dict from words to integers."""
    if not isinstance(value, dict):
        return False
    return all([is_word(kind) and is_integer(value[kind]) for kind in value])


def is_weights_of(value, kinds, least):
    """Whether any value is a dict from exactly these kinds to integers from least on."""
    if not is_weights(value) or len(value) != len(kinds):
        return False
    return all([kind in value and value[kind] >= least for kind in kinds])


def ascending(words):
    """The list of the words, ascending and without duplicates."""
    found = {word: True for word in words}
    return sorted(found, key=str)


def ascending_pairs(pairs):
    """The list of the pairs of words, ascending and without duplicates."""
    # The space comes before all letters, so that the texts are ordered as the pairs are.
    texts = {f"{one} {other}": (one, other) for one, other in pairs}
    return [texts[text] for text in sorted(texts, key=str)]
