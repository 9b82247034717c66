"""Which states and machines do the same: least machines, and first texts that tell machines or keys apart."""

from nevermiss.asked import check_signs
from nevermiss.basics import key_list
from nevermiss.machines import Machine
from nevermiss.parts import come_to


def least(machine):
    """The machine without states that no text comes to, in which those that do the same are one."""
    states = come_to(0, machine.signs, machine.walk)
    kinds = kinds_of(machine, states)
    # The states stand in the order of their first texts; so the first one of each kind has the first text of all.
    firsts = {}
    for state in states:
        firsts.setdefault(kinds[state], state)
    numbers = {kind: number for number, kind in enumerate(firsts)}
    rows = [[(numbers[kinds[to]], given) for to, given in machine.rows[state]] for state in firsts.values()]
    return Machine(machine.signs, rows, [machine.ends[state] for state in firsts.values()])


def kinds_of(machine, states):
    """A dict from states to the numbers of their kinds: states of one kind do the same."""
    kinds = {state: 0 for state in states}
    before, many = 0, 1
    # Each round parts kinds further; one that parts none is the last one.
    while before < many:
        known = {}
        finer = {}
        for state in states:
            ways = tuple([(kinds[to], given) for to, given in machine.rows[state]])
            finer[state] = known.setdefault((machine.ends[state], ways), len(known))
        kinds = finer
        before, many = many, len(known)
    return kinds


def parted(one, other):
    """The first text that has not the same keys by two machines, None if there is none."""
    check_signs(one, other)
    texts = [parted_by(one, other, key) for key in key_list(one.all_keys + other.all_keys)]
    return min([text for text in texts if text is not None],
               key=lambda text: (len(text), [one.signs.find(letter) for letter in text]), default=None)


def parted_by(one, other, key):
    """The first text that has a key by just one of two machines, None if there is none."""

    def step(label, sign):
        p, q, first, second = label
        to_p, given = one.walk(p, sign)
        to_q, other_given = other.walk(q, sign)
        return to_p, to_q, first or key in given, second or key in other_given

    def is_goal(label):
        p, q, first, second = label
        return (first or key in one.ends[p]) != (second or key in other.ends[q])

    return first_text(one.signs, (0, 0, False, False), step, is_goal)


def silent(machine):
    """The first text without any key, None if there is none."""

    def step(state, sign):
        to, given = machine.walk(state, sign)
        return to if given == () else None

    def is_goal(state):
        return machine.ends[state] == ()

    return first_text(machine.signs, 0, step, is_goal)


def giving(machine, key):
    """The first text that has a key, None if there is none."""

    def step(label, sign):
        # A text that has the key already is a goal: none is read on.
        to, given = machine.walk(label[0], sign)
        return to, key in given

    def is_goal(label):
        return label[1] or key in machine.ends[label[0]]

    return first_text(machine.signs, (0, False), step, is_goal)


def first_text(signs, label, step, is_goal):
    """The first text that comes to a goal from a label on, None if none does.

    step(label, sign) tells the label behind the sign, None if there is no way.
    """
    texts = {label: ""}
    labels = [label]
    done = 0
    while done < len(labels):
        label = labels[done]
        if is_goal(label):
            return texts[label]
        for sign in signs:
            to = step(label, sign)
            if to is not None and to not in texts:
                texts[to] = texts[label] + sign
                labels.append(to)
        done += 1
    return None
