"""What DOC.md says, done by hand in the plainest way; the tests compare the program with it."""

import itertools
import random

SIGNS = ["a", "ba", "cab", "dbca"]


def texts(signs, most):
    """All texts of at most so many signs, in the order of [3]."""
    for length in range(most + 1):
        for letters in itertools.product(signs, repeat=length):
            yield "".join(letters)


def some_texts(signs, most, many, seed):
    """Longer texts, the same ones each time."""
    dice = random.Random(seed)
    for _ in range(many):
        yield "".join(dice.choice(signs) for _ in range(dice.randint(0, most)))


def after(signs, rows, text):
    state = 0
    for letter in text:
        state = rows[state][signs.index(letter)][0]
    return state


def keys_of(signs, rows, ends, text):
    got = set()
    state = 0
    for letter in text:
        way = rows[state][signs.index(letter)]
        got = got | set(way[1])
        state = way[0]
    return tuple(sorted(got | set(ends[state])))


def parts_of_machine(signs, states, keys, seed):
    """Rows and ends of a machine, lists throughout; few keys on ways, so that not all texts have all keys."""
    dice = random.Random(seed)

    def some():
        return [key for key in keys if dice.random() < 0.12]

    rows = [[(dice.randrange(states), some()) for _ in signs] for _ in range(states)]
    ends = [some() for _ in range(states)]
    return rows, ends


def runs(text, size):
    return [text[at:at + size] for at in range(len(text) - size + 1)]


def head(text, n):
    return ("f" + text[:n],)


def tail(text, n):
    return ("l" + text[max(0, len(text) - n):],)


def size(text, n):
    return ("n%d" % min(len(text), n),)


def count(text, sign, modulus):
    return ("c%s%d" % (sign, text.count(sign) % modulus),)


def pieces(text, size):
    if len(text) < size:
        return ("short",)
    return tuple(sorted({"p" + run for run in runs(text, size)}))


def least(signs, found):
    for piece in itertools.product(signs, repeat=len(found[0])):
        if "".join(piece) in found:
            return "".join(piece)


def lightest(signs, text, places, size):
    found = runs(text, size)
    if not found:
        return ("short",)
    if len(found) < places:
        return ("m" + least(signs, found),)
    sides = [found[at:at + places] for at in range(len(found) - places + 1)]
    return tuple(sorted({"m" + least(signs, side) for side in sides}))


def states_of(machine):
    return len(machine.rows)
