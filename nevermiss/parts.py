"""Machines that are made out of parts."""

from nevermiss.basics import MOST_KEYS, MOST_STATES, key_list, same_signs
from nevermiss.errors import TooMany, Unlike
from nevermiss.machines import Machine


def heads(signs, n):
    """Each text has one key: f and its first n signs."""

    def grown(text, sign):
        if len(text) == n:
            return text
        return text + sign

    return text_ends("f", signs, n, grown)


def tails(signs, n):
    """Each text has one key: l and its last n signs."""

    def moved(text, sign):
        if len(text) == n:
            return (text + sign)[1:]
        return text + sign

    return text_ends("l", signs, n, moved)


def sized(signs, n):
    """Each text has one key: n and its length, or n itself if that is less."""

    def step(length, sign):
        return min(length + 1, n), ()

    def at_end(length):
        return ("n" + str(length),)

    return built(signs, list(range(n + 1)), step, at_end)


def counted(signs, sign, modulus):
    """Each text has one key: c, a sign and how often that sign stands in the text, modulo the modulus."""

    def step(many, letter):
        if letter == sign:
            return (many + 1) % modulus, ()
        return many, ()

    def at_end(many):
        return ("c" + sign + str(many),)

    return built(signs, list(range(modulus)), step, at_end)


def pieces(signs, size):
    """The keys of a text are p and each run of so many signs in it."""
    # Of one place alone, the piece that stands there is the least one.
    return least_pieces("p", signs, 1, size)


def lightest(signs, places, size):
    """The keys of a text are m and the least piece of each so many places side by side."""
    return least_pieces("m", signs, places, size)


def folded(machine, signs, words):
    """A machine over other signs, which reads the word of a sign for the sign."""
    rows = [[machine.walk(state, words[sign]) for sign in signs] for state in range(len(machine.rows))]
    return Machine(signs, rows, machine.ends)


def beside(one, other):
    """The keys of two machines with the same signs."""
    if not same_signs(one.signs, other.signs):
        raise Unlike()
    if len(key_list(one.all_keys + other.all_keys)) > MOST_KEYS:
        raise TooMany("keys")

    def step(pair, sign):
        to, given = one.walk(pair[0], sign)
        other_to, other_given = other.walk(pair[1], sign)
        return (to, other_to), given + other_given

    def at_end(pair):
        return one.ends[pair[0]] + other.ends[pair[1]]

    pairs = come_to((0, 0), one.signs, step)
    if len(pairs) > MOST_STATES:
        raise TooMany("states")
    return built(one.signs, pairs, step, at_end)


def holding(machine, keys):
    """The machine with those of its keys that are in a list."""

    def kept(given):
        return [key for key in given if key in keys]

    return with_keys(machine, kept)


def renamed(machine, names):
    """The machine with names in the place of keys."""

    def named(given):
        return [names.get(key, key) for key in given]

    return with_keys(machine, named)


def built(signs, labels, step, at_end):
    """The machine with a state for each label, the first one first.

    step(label, sign) tells the label behind the sign and the keys of the way, at_end(label) the keys at the end.
    """
    states = {label: state for state, label in enumerate(labels)}
    rows = []
    for label in labels:
        ways = [step(label, sign) for sign in signs]
        rows.append([(states[to], given) for to, given in ways])
    return Machine(signs, rows, [at_end(label) for label in labels])


def come_to(label, signs, step):
    """The labels to which some text comes from a label on."""
    seen = {label: True}
    labels = [label]
    done = 0
    while done < len(labels):
        for sign in signs:
            to = step(labels[done], sign)[0]
            if to not in seen:
                seen[to] = True
                labels.append(to)
        done += 1
    return labels


def text_ends(letter, signs, n, behind):
    """The machine of the texts of at most n signs, each with one key at its end; behind tells the ways."""
    if many_below(len(signs), n + 1) > MOST_KEYS:
        raise TooMany("keys")

    def step(text, sign):
        return behind(text, sign), ()

    def at_end(text):
        return (letter + text,)

    return built(signs, texts_below(signs, n + 1), step, at_end)


def least_pieces(letter, signs, places, size):
    """The machine that tells the least piece of each so many places side by side.

    A state is a pair: whether there were so many places already, and the signs that are still needed.
    """
    width = places + size - 1
    check_pieces(len(signs), size, width)

    def step(label, sign):
        read = label[1] + sign
        if len(read) < width:
            return (False, read), ()
        return (True, read[1:]), (letter + least_piece(signs, read, size),)

    def at_end(label):
        over, read = label
        if over:
            return ()
        if len(read) < size:
            return ("short",)
        return (letter + least_piece(signs, read, size),)

    few = [(False, read) for read in texts_below(signs, width)]
    enough = [(True, read) for read in texts_of(signs, width - 1)]
    return built(signs, few + enough, step, at_end)


def check_pieces(many, size, width):
    """Raises TooMany if pieces of so many signs, or what is kept of the text, are too many for a machine."""
    # One key is left for the texts that are shorter than a piece.
    if many_of(many, size) > MOST_KEYS - 1:
        raise TooMany("keys")
    if many_below(many, width) + many_of(many, width - 1) > MOST_STATES:
        raise TooMany("states")


def least_piece(signs, text, size):
    """The least run of so many signs in a text, by the order of the signs."""
    runs = [text[at:at + size] for at in range(len(text) - size + 1)]
    return min(runs, key=lambda run: [signs.find(letter) for letter in run])


def many_of(many, length):
    """How many texts of a length there are over so many signs."""
    texts = 1
    for _ in range(length):
        texts = texts * many
    return texts


def many_below(many, length):
    """How many texts there are that are shorter than a length."""
    return sum([many_of(many, shorter) for shorter in range(length)])


def texts_of(signs, length):
    """The texts of a length."""
    texts = [""]
    for _ in range(length):
        texts = [text + sign for text in texts for sign in signs]
    return texts


def texts_below(signs, length):
    """The texts that are shorter than a length, shorter ones first."""
    return [text for shorter in range(length) for text in texts_of(signs, shorter)]


def with_keys(machine, change):
    """The machine with each list of keys changed by a function."""
    rows = [[(to, change(given)) for to, given in row] for row in machine.rows]
    return Machine(machine.signs, rows, [change(end) for end in machine.ends])
