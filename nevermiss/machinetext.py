"""Texts of machines: how they are written and read."""

from nevermiss.basics import MOST_STATES, are_signs, is_key
from nevermiss.errors import BadText


def state_line(ways, end):
    """The line of a state."""
    words = ["+".join([str(to), *given]) for to, given in ways]
    return " ".join([*words, "|", *end])


def read_parts(text):
    """The signs, rows and ends that the text of a machine tells."""
    lines = text.split("\n")
    signs = read_signs(lines[0])
    if signs is None:
        raise BadText(1)
    if len(lines) == 1:
        raise BadText(2)
    # Looking a number up here bars leading zeros, strange digits and numbers too long for int() as well.
    states = {str(state): state for state in range(len(lines) - 1)}
    rows = []
    ends = []
    for at in range(1, len(lines)):
        parts = read_state(lines[at], len(signs), states)
        if parts is None or at > MOST_STATES:
            raise BadText(at + 1)
        ways, end = parts
        rows.append(ways)
        ends.append(end)
    return signs, rows, ends


def spaced_words(line):
    """The words of a line; split() without a space would take tabs for spaces, too."""
    return [word for word in line.split(" ") if word != ""]


def read_signs(line):
    """The signs that the first line tells, None if it is wrong."""
    words = spaced_words(line)
    if len(words) != 2 or words[0] != "signs" or not are_signs(words[1]):
        return None
    return words[1]


def read_state(line, many, states):
    """The ways and the keys at the end that the line of a state tells, None if it is wrong."""
    words = spaced_words(line)
    if len(words) <= many or words[many] != "|":
        return None
    ways = [read_way(word, states) for word in words[:many]]
    end = words[many + 1:]
    if not all([way is not None for way in ways]) or not are_keys(end):
        return None
    return ways, end


def read_way(word, states):
    """The next state and the keys of a way, None if the word is wrong."""
    number, *given = word.split("+")
    to = states.get(number)
    if to is None or not are_keys(given):
        return None
    return to, given


def are_keys(words):
    """Whether all words are keys, each once."""
    return len(set(words)) == len(words) and all([is_key(word) for word in words])
