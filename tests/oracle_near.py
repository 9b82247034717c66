"""What DOC.md says of states, of two texts and of one text, done by hand in the plainest way."""

import heapq
import itertools

import oracle


# Machines that do the same [14], [15]


def walked(machine, state, text):
    """The keys on each way of a text that is read from a state on, and the keys at the end."""
    told = []
    for letter in text:
        state, given = machine.rows[state][machine.signs.index(letter)]
        told.append(tuple(sorted(given)))
    return told, tuple(sorted(machine.ends[state])), state


def do_the_same(machine, one, other, most):
    """Whether two states tell the same for all texts of at most so many signs."""
    return all([walked(machine, one, text)[:2] == walked(machine, other, text)[:2]
                for text in oracle.texts(machine.signs, most)])


def unlike_pairs(machine):
    """The pairs of states that do not the same."""
    states = range(len(machine.rows))

    def given(state):
        return [set(way[1]) for way in machine.rows[state]], set(machine.ends[state])

    unlike = {(p, q) for p in states for q in states if given(p) != given(q)}
    changed = True
    while changed:
        more = {(p, q) for p in states for q in states if (p, q) not in unlike
                and any([(one[0], other[0]) in unlike for one, other in zip(machine.rows[p], machine.rows[q])])}
        unlike = unlike | more
        changed = bool(more)
    return unlike


def first_texts(machine):
    """The states that texts come to, each with its first text, in the order of these."""
    found = {0: ""}
    todo = [0]
    for state in todo:
        for sign, way in zip(machine.signs, machine.rows[state]):
            if way[0] not in found:
                found[way[0]] = found[state] + sign
                todo.append(way[0])
    return found


def least(machine):
    """The signs, rows and ends of the least machine."""
    unlike = unlike_pairs(machine)
    chosen = []
    for state in first_texts(machine):
        if all([(state, other) in unlike for other in chosen]):
            chosen.append(state)

    def number(state):
        return [at for at, other in enumerate(chosen) if (state, other) not in unlike][0]

    rows = tuple([tuple([(number(to), tuple(sorted(given))) for to, given in machine.rows[state]])
                  for state in chosen])
    return machine.signs, rows, tuple([tuple(sorted(machine.ends[state])) for state in chosen])


def first_of(signs, most, holds):
    """The first text of at most so many signs of which something holds, None if there is none."""
    for text in oracle.texts(signs, most):
        if holds(text):
            return text
    return None


# Weights of two texts [81]


def told_weights(edits, most):
    """The least weights of all pairs of texts that rows of at most so many columns tell."""
    weights = {}
    for columns in oracle.rows_of_columns(edits, most):
        x, y, weight = oracle.tell(edits, columns)
        weights[(x, y)] = min(weight, weights.get((x, y), weight))
    return weights


def weight(edits, x, y):
    """The weight of two texts, by what is left of them."""
    known = {}

    def rest(i, j):
        if (i, j) not in known:
            known[(i, j)] = 0 if (i, j) == (len(x), len(y)) else None
            for column in oracle.all_columns(edits):
                u, v, more = oracle.side(edits, column)
                if x[i:i + len(u)] == u and y[j:j + len(v)] == v:
                    behind = rest(i + len(u), j + len(v))
                    if behind is not None and (known[(i, j)] is None or behind + more < known[(i, j)]):
                        known[(i, j)] = behind + more
        return known[(i, j)]

    return rest(0, 0)


def is_bar(edits, x, y, k, places):
    """Whether a bar is right, by the words of [81]."""
    for (i, j), h in places.items():
        if not 0 <= i <= len(x) or not 0 <= j <= len(y) or h < 0:
            return False
    if places.get((0, 0)) != 0 or (len(x), len(y)) in places:
        return False
    for (i, j), h in places.items():
        for column in oracle.all_columns(edits):
            u, v, w = oracle.side(edits, column)
            if x[i:i + len(u)] == u and y[j:j + len(v)] == v:
                behind = (i + len(u), j + len(v))
                if not (h + w > k or (behind in places and places[behind] <= h + w)):
                    return False
    return True


# One text [101], [102]


def near_ones(rule, edits, text, k):
    """The least weights of all (keys of a near one): a dict from sorted tuples."""
    weights = {}
    number = 0
    queue = [(0, 0, 0, 0, frozenset())]
    seen = set()
    while queue:
        so_far, _, i, q, got = heapq.heappop(queue)
        if (i, q, got) in seen:
            continue
        seen.add((i, q, got))
        if i == len(text):
            keys = tuple(sorted(got | set(rule.right.ends[q])))
            weights.setdefault(keys, so_far)
        for column in oracle.all_columns(edits):
            u, v, more = oracle.side(edits, column)
            if text[i:i + len(u)] == u and (k is None or so_far + more <= k):
                to, given = oracle.walk(rule.right, q, v)
                number += 1
                heapq.heappush(queue, (so_far + more, number, i + len(u), to, got | given))
    return weights


def told_near_ones(rule, edits, text, most):
    """The pairs of the keys of a near one and the weight, for all rows of at most so many columns."""
    for columns in oracle.rows_of_columns(edits, most):
        x, y, weight_so = oracle.tell(edits, columns)
        if x == text:
            yield oracle.keys(rule.right, y), weight_so


def least_miss(rule, edits, text):
    """The least weight with which a text is missed, None if it is not."""
    own = oracle.keys(rule.left, text)
    near = near_ones(rule, edits, text, None)
    return min([near[keys] for keys in near if not own & set(keys)], default=None)


def lacks(rule, edits, text, k):
    own = oracle.keys(rule.left, text)
    missing = [keys for keys in near_ones(rule, edits, text, k) if not own & set(keys)]
    there = sorted(set(itertools.chain(*missing)))
    return oracle.hitting_sets(missing, there)


def is_fence(rule, edits, text, k, places):
    """Whether a fence is right, by the words of [101]."""
    own = oracle.keys(rule.left, text)
    for (i, q), h in places.items():
        if not 0 <= i <= len(text) or not 0 <= q < len(rule.right.rows) or h < 0:
            return False
    if places.get((0, 0)) != 0:
        return False
    for (i, q), h in places.items():
        if i == len(text) and not own & set(rule.right.ends[q]):
            return False
        for column in oracle.all_columns(edits):
            u, v, w = oracle.side(edits, column)
            if text[i:i + len(u)] == u:
                to, given = oracle.walk(rule.right, q, v)
                behind = (i + len(u), to)
                barred = bool(given & own) or (k is not None and h + w > k)
                if not barred and not (behind in places and places[behind] <= h + w):
                    return False
    return True


def changed_places(dice, places, pairs, many):
    """Papers with one thing changed; some of them are right all the same."""
    for _ in range(many):
        new = dict(places)
        there = dice.choice(sorted(new)) if new else dice.choice(pairs)
        what = dice.choice(["out", "number", "number", "in", "strange", "below"])
        if what == "out":
            new.pop(there, None)
        elif what == "number":
            new[there] = max(0, new.get(there, 0) + dice.choice([-1, 1, 2, -2, 10 ** 40]))
        elif what == "below":
            new[there] = dice.choice([-1, -10 ** 30])
        elif what == "in":
            new[dice.choice(pairs)] = dice.choice([0, 0, 1, 3, 10 ** 40])
        else:
            i, j = there
            new[dice.choice([(-1, j), (i, -1), (i + 40, j), (i, j + 40), (-1, -1)])] = new.get(there, 0)
        yield new
