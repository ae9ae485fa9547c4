"""Integers, words, nodes and symbols."""

MAX_LETTERS = 8
MAX_ARITY = 3
MAX_SYMBOLS = 8
ANY = "_"
LOST = "#"


def is_integer(value):
    """Whether the value is an integer of at most sixty digits."""
    return isinstance(value, int) and not isinstance(value, bool) and abs(value) < 10 ** 60


def is_index(value, count):
    """Whether the value is one of the indices of so many things."""
    return is_integer(value) and 0 <= value < count


def is_word(value):
    """Whether the value is a string of one to eight letters a to z."""
    if not isinstance(value, str) or not 1 <= len(value) <= MAX_LETTERS:
        return False
    return all(["a" <= letter <= "z" for letter in value])


def is_arity(value):
    """Whether the value is the number of arguments of a symbol."""
    return is_integer(value) and 0 <= value <= MAX_ARITY


def is_leaf(sign):
    """Whether the sign is that of a leaf which is no symbol."""
    return sign in (ANY, LOST)


def is_node(value):
    """Whether the value is a pair of a word and its arity, or one of the two leaves."""
    if not isinstance(value, tuple) or len(value) != 2:
        return False
    sign, arity = value
    if is_leaf(sign):
        return is_arity(arity) and arity == 0
    return is_word(sign) and is_arity(arity)


def is_symbols(value):
    """Whether the value is a dict from one to eight words to arities, with a constant among them."""
    if not isinstance(value, dict) or not 1 <= len(value) <= MAX_SYMBOLS:
        return False
    if not all([is_word(word) and is_arity(arity) for word, arity in value.items()]):
        return False
    return any([arity == 0 for arity in value.values()])


def is_renaming(value, words):
    """Whether the value is a dict from just these different words to different words."""
    if not isinstance(value, dict) or len(value) != len(words):
        return False
    if not all([word in value for word in words]):
        return False
    names = [value[word] for word in words]
    return all([is_word(name) for name in names]) and len(set(names)) == len(names)
