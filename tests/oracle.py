"""What DOC.md says, done by hand in the plainest way; the tests compare the program with it."""

import heapq
import itertools
import random

from nevermiss import parts
from nevermiss.edits import Edits
from nevermiss.machines import Machine
from nevermiss.rules import Rule

SIGNS = ["a", "ba", "cab", "dbca"]


def texts(signs, most):
    """All texts of at most so many signs, in the order of [3]."""
    for length in range(most + 1):
        for letters in itertools.product(signs, repeat=length):
            yield "".join(letters)


def some_texts(signs, most, many, seed):
    """Longer texts, the same ones each time."""
    dice = random.Random(seed)
    for _ in range(many):
        yield "".join(dice.choice(signs) for _ in range(dice.randint(0, most)))


def after(signs, rows, text):
    state = 0
    for letter in text:
        state = rows[state][signs.index(letter)][0]
    return state


def keys_of(signs, rows, ends, text):
    got = set()
    state = 0
    for letter in text:
        way = rows[state][signs.index(letter)]
        got = got | set(way[1])
        state = way[0]
    return tuple(sorted(got | set(ends[state])))


def parts_of_machine(signs, states, keys, seed, on_ways=0.12, at_ends=0.12):
    """Rows and ends of a machine, lists throughout; few keys on ways, so that not all texts have all keys."""
    dice = random.Random(seed)

    def some(often):
        return [key for key in keys if dice.random() < often]

    rows = [[(dice.randrange(states), some(on_ways)) for _ in signs] for _ in range(states)]
    ends = [some(at_ends) for _ in range(states)]
    return rows, ends


def runs(text, size):
    return [text[at:at + size] for at in range(len(text) - size + 1)]


def head(text, n):
    return ("f" + text[:n],)


def tail(text, n):
    return ("l" + text[max(0, len(text) - n):],)


def size(text, n):
    return ("n%d" % min(len(text), n),)


def count(text, sign, modulus):
    return ("c%s%d" % (sign, text.count(sign) % modulus),)


def pieces(text, size):
    if len(text) < size:
        return ("short",)
    return tuple(sorted({"p" + run for run in runs(text, size)}))


def least(signs, found):
    for piece in itertools.product(signs, repeat=len(found[0])):
        if "".join(piece) in found:
            return "".join(piece)


def lightest(signs, text, places, size):
    found = runs(text, size)
    if not found:
        return ("short",)
    if len(found) < places:
        return ("m" + least(signs, found),)
    sides = [found[at:at + places] for at in range(len(found) - places + 1)]
    return tuple(sorted({"m" + least(signs, side) for side in sides}))


def states_of(machine):
    return len(machine.rows)


# Rows of columns [22]


def all_columns(edits):
    return list(edits.signs) + list(range(len(edits.rows)))


def side(edits, column):
    """The first side, the second side and the weight of a column."""
    return (column, column, 0) if isinstance(column, str) else edits.rows[column]


def tell(edits, columns):
    """The two texts that a row of columns tells, and its weight."""
    sides = [side(edits, column) for column in columns]
    return "".join([u for u, v, weight in sides]), "".join([v for u, v, weight in sides]), sum([w for u, v, w in sides])


def rows_of_columns(edits, most):
    """All rows of at most so many columns."""
    for length in range(most + 1):
        yield from itertools.product(all_columns(edits), repeat=length)


# Bad rows [30]


def keys(machine, text):
    return set(keys_of(machine.signs, machine.rows, machine.ends, text))


def shared(rule, edits, columns):
    x, y, weight = tell(edits, columns)
    return keys(rule.left, x) & keys(rule.right, y)


def all_wanted(rule, given, wanted):
    found = {key for machine in (rule.left, rule.right) for row in machine.rows for way in row for key in way[1]}
    found = found | {key for machine in (rule.left, rule.right) for end in machine.ends for key in end}
    return sorted(found - set(given)) if wanted is None else list(wanted)


def is_near(edits, k, columns):
    return k is None or tell(edits, columns)[2] <= k


def is_bad(rule, edits, k, columns, given=(), wanted=None):
    got = shared(rule, edits, columns)
    return is_near(edits, k, columns) and set(given) <= got and not got & set(all_wanted(rule, given, wanted))


def walk(machine, state, text):
    """The state behind a text that is read from a state on, and the keys on the way."""
    got = set()
    for letter in text:
        state, given = machine.rows[state][machine.signs.index(letter)]
        got = got | set(given)
    return state, got


def moves(rule, edits, p, q):
    """For each column: the states behind it, what both texts get, its weight and its signs on the first side."""
    for column in all_columns(edits):
        u, v, weight = side(edits, column)
        to_p, first = walk(rule.left, p, u)
        to_q, second = walk(rule.right, q, v)
        yield to_p, to_q, first, second, weight, len(u), column


def told_apart(rule, edits, keys_that_matter, k=None, walks=None):
    """The least weights of all (p, q, keys of the first text so far, of the second one): for texts of all lengths.

    walks takes a row of columns for each.
    """
    matter = frozenset(keys_that_matter)
    start = (0, 0, frozenset(), frozenset())
    number = 0
    queue = [(0, number, start, ())]
    weights = {}
    while queue:
        weight, _, spot, row = heapq.heappop(queue)
        if spot in weights:
            continue
        weights[spot] = weight
        if walks is not None:
            walks[spot] = row
        p, q, x, y = spot
        for to_p, to_q, first, second, more, _, column in moves(rule, edits, p, q):
            number += 1
            if k is None or weight + more <= k:
                to = (to_p, to_q, x | (first & matter), y | (second & matter))
                heapq.heappush(queue, (weight + more, number, to, row + (column,)))
    return weights


def met_at(rule, spot):
    """The keys that two texts share whose reading ends so."""
    p, q, x, y = spot
    return (x | set(rule.left.ends[p])) & (y | set(rule.right.ends[q]))


def least_weight(rule, edits, given=(), wanted=None):
    """The least weight of a bad row, None if there is none."""
    wanted = all_wanted(rule, given, wanted)
    weights = told_apart(rule, edits, [*given, *wanted])
    return min([weights[spot] for spot in weights
                if set(given) <= met_at(rule, spot) and not met_at(rule, spot) & set(wanted)], default=None)


def longest_length(rule, edits, k, given=(), wanted=None):
    """The number of signs of the longest first text of bad rows, None if no row is bad, "endless" without a bound."""
    wanted = all_wanted(rule, given, wanted)
    matter = frozenset([*given, *wanted])
    ahead = {}
    todo = [((0, 0, frozenset(), frozenset()), 0)]
    while todo:
        spot, c = todo.pop()
        if (spot, c) in ahead:
            continue
        ahead[(spot, c)] = []
        p, q, x, y = spot
        for to_p, to_q, first, second, more, signs, _ in moves(rule, edits, p, q):
            if c + more <= k:
                to = ((to_p, to_q, x | (first & matter), y | (second & matter)), c + more)
                ahead[(spot, c)].append((to, signs))
                todo.append(to)
    best = {at: 0 for at in ahead
            if set(given) <= met_at(rule, at[0]) and not met_at(rule, at[0]) & set(wanted)}
    # Without a ring, no way comes to a spot twice, and each side has at most three signs.
    changed = True
    while changed:
        changed = False
        for at in ahead:
            for to, signs in ahead[at]:
                if to in best and best[to] + signs > best.get(at, -1):
                    best[at] = best[to] + signs
                    changed = True
        if max(best.values(), default=0) > 3 * len(ahead):
            return "endless"
    return best.get(((0, 0, frozenset(), frozenset()), 0))


# Trees [32], [41]


def leaves(tree):
    """Pairs of the way from the root to a leaf, as pairs of a key and whose it is alone, and the nodes."""
    if len(tree) == 2:
        return [((), tree[1])]
    key, one, other = tree
    told = [(((key, "first"),) + way, nodes) for way, nodes in leaves(one)]
    return told + [(((key, "second"),) + way, nodes) for way, nodes in leaves(other)]


def divides(wanted, way):
    names = [key for key, whose in way]
    return len(set(names)) == len(names) and set(names) <= set(wanted)


def is_barred(way, wanted, first, second):
    """Whether what both texts get in one event is barred at a leaf."""
    if first & second & set(wanted):
        return True
    return any([key in (second if whose == "first" else first) for key, whose in way])


def with_flags(flags, given, first, second):
    new = list(flags)
    for at, key in enumerate(given):
        new[2 * at] = 1 if key in first else new[2 * at]
        new[2 * at + 1] = 1 if key in second else new[2 * at + 1]
    return tuple(new)


def is_spot(rule, given, p, q, flags):
    known = 0 <= p < len(rule.left.rows) and 0 <= q < len(rule.right.rows)
    return known and len(flags) == 2 * len(given) and all([flag in (0, 1) for flag in flags])


def ends_full(rule, way, given, wanted, p, q, flags):
    """Whether there is an end that is full and not barred."""
    first, second = set(rule.left.ends[p]), set(rule.right.ends[q])
    return not is_barred(way, wanted, first, second) and 0 not in with_flags(flags, given, first, second)


def is_right_leaf(rule, edits, k, way, nodes, given, wanted):
    numbers = {}
    for p, q, flags, h in nodes:
        if (p, q, tuple(flags)) in numbers or not is_spot(rule, given, p, q, flags) or h < 0:
            return False
        numbers[(p, q, tuple(flags))] = h
    if numbers.get((0, 0, (0,) * (2 * len(given)))) != 0:
        return False
    for p, q, flags in numbers:
        if ends_full(rule, way, given, wanted, p, q, flags):
            return False
        for to_p, to_q, first, second, weight, signs, column in moves(rule, edits, p, q):
            if not is_barred(way, wanted, first, second):
                h = numbers[(p, q, flags)] + weight
                to = (to_p, to_q, with_flags(flags, given, first, second))
                if not ((k is not None and h > k) or (to in numbers and numbers[to] <= h)):
                    return False
    return True


def is_right_tree(rule, edits, k, tree, given=(), wanted=None):
    wanted = all_wanted(rule, given, wanted)
    return all([divides(wanted, way) and is_right_leaf(rule, edits, k, way, nodes, given, wanted)
                for way, nodes in leaves(tree)])


def is_right_far_leaf(rule, edits, k, many, way, nodes, given, wanted):
    rooms = {}
    for p, q, flags, c, room in nodes:
        if (p, q, tuple(flags), c) in rooms or not is_spot(rule, given, p, q, flags) or not 0 <= c <= k:
            return False
        if room is not None and room < 0:
            return False
        rooms[(p, q, tuple(flags), c)] = room
    start = (0, 0, (0,) * (2 * len(given)), 0)
    if start not in rooms or (rooms[start] is not None and (many is None or rooms[start] > many)):
        return False
    for (p, q, flags, c), room in rooms.items():
        if room is None and ends_full(rule, way, given, wanted, p, q, flags):
            return False
        for to_p, to_q, first, second, weight, signs, column in moves(rule, edits, p, q):
            if not is_barred(way, wanted, first, second) and c + weight <= k:
                to = (to_p, to_q, with_flags(flags, given, first, second), c + weight)
                if to not in rooms:
                    return False
                if rooms[to] is not None and (room is None or rooms[to] > room - signs):
                    return False
    return True


def is_right_far_tree(rule, edits, k, many, tree, given=(), wanted=None):
    wanted = all_wanted(rule, given, wanted)
    return all([divides(wanted, way) and is_right_far_leaf(rule, edits, k, many, way, nodes, given, wanted)
                for way, nodes in leaves(tree)])


def as_lists(tree):
    """A tree with lists in the place of tuples."""
    return [as_lists(part) for part in tree] if isinstance(tree, (tuple, list)) else tree


# Sets of keys [50]


def least_sets(sets):
    return [one for one in sets if not any([set(other) < set(one) for other in sets])]


def hitting_sets(sets, keys_there):
    """All least sets of keys that have a key of each set, ascending."""
    hits = [hit for size in range(len(keys_there) + 1) for hit in itertools.combinations(sorted(keys_there), size)
            if all([set(hit) & set(one) for one in sets])]
    return sorted(least_sets(hits))


def met_sets(rule, edits, k):
    """All least sets of keys that near texts of any length share, ascending."""
    spots = told_apart(rule, edits, all_wanted(rule, (), None), k)
    return sorted(least_sets({tuple(sorted(met_at(rule, spot))) for spot in spots}))


# Questions to ask

NAMES = ["x", "leaf", "a", "0", "10", "zz"]
GREAT = 10 ** 30


def some_edits(dice, signs, many):
    """Edits with weights 0, 1, some and great ones."""
    words = list(texts(signs, 2)) + ["".join(dice.choice(signs) for _ in range(3)) for _ in range(3)]
    weights = dice.choice([(0,), (1,), (1, 2), (0, 1), (1, 2, 5), (0, 1, GREAT), (2, 7, GREAT - 1)])
    pairs = sorted({(u, v) for u in words for v in words if u != v})
    return Edits(signs, [(u, v, dice.choice(weights)) for u, v in dice.sample(pairs, min(many, len(pairs)))])


def some_machine(dice, signs, states, names, often):
    rows, ends = parts_of_machine(signs, states, names, dice.random(), *often)
    # Otherwise most rules would be bad by rows of no weight, as texts would have no key at all.
    ends = [end if end else dice.sample(names, 1) for end in ends]
    return Machine(signs, rows, ends)


def some_rule(dice, signs, states, names):
    """A rule of one machine or of two, with more or fewer keys on ways and at ends."""
    often = (dice.choice((0.05, 0.15, 0.3, 0.5)), dice.choice((0.1, 0.4, 0.6, 0.8)))
    left = some_machine(dice, signs, states, names, often)
    if dice.random() < 0.6:
        return Rule(left)
    return Rule(left, some_machine(dice, signs[::-1], dice.randint(1, states), names, often))


def part_rules():
    """Rules of parts, in which near texts often share a key."""
    made = [parts.pieces("ab", 2), parts.pieces("ab", 1), parts.heads("ba", 1), parts.sized("ab", 3),
            parts.lightest("ab", 2, 1), parts.lightest("ba", 2, 2), parts.counted("a", "a", 3),
            parts.beside(parts.pieces("ab", 1), parts.sized("ab", 2)),
            parts.beside(parts.heads("ab", 1), parts.tails("ab", 1)),
            parts.beside(parts.counted("ab", "a", 2), parts.counted("ab", "b", 2))]
    return [*[Rule(machine) for machine in made], Rule(parts.tails("ab", 1), parts.tails("ba", 1))]


def questions(seed, many, states=4, names=5):
    """Tuples (rule, edits, k, given, wanted), the same ones each time."""
    dice = random.Random(seed)
    for _ in range(many):
        if dice.random() < 0.4:
            rule = dice.choice(part_rules())
            signs = rule.signs
        else:
            signs = dice.choice(["a", "ba", "ba", "ba", "cab"])
            rule = some_rule(dice, signs, dice.randint(1, states), NAMES[:dice.randint(2, names)])
        edits = some_edits(dice, dice.choice([signs, signs[::-1]]), dice.randint(0, 5))
        if dice.random() < 0.3:
            edits = Edits.plain(signs, *[dice.choice([1, 2, 3, 9, GREAT]) for _ in range(3)])
        k = dice.choice([0, 1, 1, 2, 2, 3, 7, 10 ** 40, None])
        order = dice.sample(rule.all_keys, len(rule.all_keys))
        given = order[:dice.choice([0, 0, 0, 1, 1, 2])]
        rest = order[len(given):]
        wanted = dice.choice([None, None, None, None, [], rest[:1], rest[:3], rest])
        yield rule, edits, k, given, wanted


# Trees with one thing changed


def parts_of_tree(tree, way=()):
    """Pairs of the way to a part of a tree (1: one, 2: other) and the part."""
    told = [(way, tree)]
    if len(tree) == 3:
        told += parts_of_tree(tree[1], way + (1,)) + parts_of_tree(tree[2], way + (2,))
    return told


def with_part(tree, way, part):
    if not way:
        return part
    return tree[:way[0]] + (with_part(tree[way[0]], way[1:], part),) + tree[way[0] + 1:]


def changed_division(dice, part, names):
    key, one, other = part
    return dice.choice([(key, other, one), (dice.choice(names), one, other), one, other, (key, one, one),
                        (key, other, other), (key, one, part), (dice.choice(names), part, other)])


def changed_node(dice, rule, node):
    p, q, flags, *numbers = node
    what = dice.choice(["state", "state", "flag", "flags", "number", "number"])
    if what == "state" and dice.random() < 0.5:
        p = dice.choice([-1, len(rule.left.rows), len(rule.left.rows) - 1, 0, p + 1])
    elif what == "state":
        q = dice.choice([-1, len(rule.right.rows), len(rule.right.rows) - 1, 0, q + 1])
    elif what == "flag" and flags:
        at = dice.randrange(len(flags))
        flags = flags[:at] + (dice.choice([0, 1, 2, -1, 1 - flags[at]]),) + flags[at + 1:]
    elif what == "flags":
        flags = dice.choice([flags + (0,), flags + (0, 0), flags[:-1], flags[:-2], flags[::-1]])
    else:
        at = dice.randrange(len(numbers))
        number = numbers[at]
        if number is None:
            numbers[at] = dice.choice([0, 1, 7])
        else:
            numbers[at] = dice.choice([number + 1, number - 1, 0, number + GREAT] + ([None] if at == 1 else []))
    return (p, q, flags, *numbers)


def changed_nodes(dice, rule, nodes):
    nodes = list(nodes)
    at = dice.randrange(len(nodes))
    what = dice.choice(["drop", "double", "change", "change", "change", "add", "turn"])
    if what == "drop":
        del nodes[at]
    elif what == "double":
        nodes.insert(dice.randrange(len(nodes) + 1), nodes[at])
    elif what == "change":
        nodes[at] = changed_node(dice, rule, nodes[at])
    elif what == "add":
        nodes.insert(dice.randrange(len(nodes) + 1), changed_node(dice, rule, nodes[at]))
    else:
        nodes = nodes[::-1]
    return tuple(nodes)


def changed_trees(dice, rule, given, tree, many):
    """Trees with one thing changed; some of them are right all the same."""
    names = [*rule.all_keys, "strange", "leaf", *given]
    for _ in range(many):
        way, part = dice.choice(parts_of_tree(tree))
        if len(part) == 3:
            new = changed_division(dice, part, names)
        elif dice.random() < 0.2:
            new = (dice.choice(names), part, part)
        else:
            new = ("leaf", changed_nodes(dice, rule, part[1]))
        yield with_part(tree, way, new)
