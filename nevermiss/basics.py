"""Signs, keys and integers, as the other files use them."""

LETTERS = "abcdefghijklmnopqrstuvwxyz"
KEY_LETTERS = "abcdefghijklmnopqrstuvwxyz0123456789"
MOST_SIGNS = 4
LONGEST_KEY = 12
MOST_KEYS = 12
MOST_STATES = 16


def is_whole(value):
    """Whether a value is an int that is not a bool."""
    return isinstance(value, int) and not isinstance(value, bool)


def is_natural(value):
    """Whether a value is an integer from 0."""
    return is_whole(value) and value >= 0


def are_signs(word):
    """Whether a word can be the signs of a machine."""
    if len(word) < 1 or len(word) > MOST_SIGNS:
        return False
    return len(set(word)) == len(word) and all([letter in LETTERS for letter in word])


def same_signs(one, other):
    """Whether two strings of signs have the same letters."""
    return sorted(one) == sorted(other)


def is_key(word):
    """Whether a word is a key."""
    if len(word) < 1 or len(word) > LONGEST_KEY:
        return False
    return all([letter in KEY_LETTERS for letter in word])


def standing(text, words):
    """For each place of a text, its end too, the words that stand there, as bits: the lowest one for the first word."""
    return [sum([1 << at for at, word in enumerate(words) if text.startswith(word, place)])
            for place in range(len(text) + 1)]


def key_list(given):
    """Keys in any order, with doubles, as a list of keys is told."""
    return tuple(sorted(set(given)))
