"""Whether rows of columns and trees are right, by the words of the document."""

from nevermiss.basics import is_natural
from nevermiss.ways import Ways


def is_bad_row(question, columns, k):
    """Whether a row of columns is bad for the bound k."""
    shared = question.ground.shared(columns)
    if shared & question.wanted or not question.ground.is_near(columns, k):
        return False
    return all([shared >> at & 1 for at in question.given])


def is_right_tree(question, tree, is_right_leaf):
    """Whether a tree divides wanted keys, each once on a way, and is_right_leaf(barred, nodes) holds of its leaves."""
    todo = [(tree, 0)]
    while todo:
        part, barred = todo.pop()
        if not isinstance(part, (tuple, list)):
            return False
        # A key may be called leaf, too: the length tells what it is.
        if len(part) == 2:
            if part[0] != "leaf" or not is_right_leaf(barred, part[1]):
                return False
        else:
            key, one, other = part
            at = question.open_index(barred, key)
            if at is None:
                return False
            todo.append((one, question.bar_second(barred, at)))
            todo.append((other, question.bar_first(barred, at)))
    return True


def is_light_tree(question, tree, k):
    """Whether a tree is right for the bound k."""

    def is_right_leaf(barred, nodes):
        numbers = told_numbers(question, nodes)
        return numbers is not None and are_low(Ways(question, barred), numbers, k)

    return is_right_tree(question, tree, is_right_leaf)


def told_numbers(question, nodes):
    """A dict from the places of nodes to their numbers; None if a node is none, or two have the same place."""
    numbers = {}
    for p, q, flags, number in nodes:
        place = question.place_of(p, q, flags)
        if place is None or place in numbers or not is_natural(number):
            return None
        numbers[place] = number
    return numbers


def paired_numbers(places, many, width):
    """A dict from pairs (i, j) to numbers as one from i * width + j; None if a pair is none or a number is below 0."""
    numbers = {}
    for pair, number in places.items():
        i, j = pair
        if not is_natural(i) or i >= many or not is_natural(j) or j >= width or not is_natural(number):
            return None
        numbers[i * width + j] = number
    return numbers


def are_low(ways, numbers, k):
    """Whether the numbers of places prove that no way within the bound k leads to an end."""
    if numbers.get(0) != 0:
        return False
    for place in list(numbers):
        if ways.is_end(place) or not is_closed(ways, numbers, place, k):
            return False
    return True


def is_closed(ways, numbers, place, k):
    """Whether each way from a place on leads to a place with a number as small as it has to be."""
    number = numbers[place]
    for to, weight, _, _ in ways.ahead(place):
        if k is None or number + weight <= k:
            if to not in numbers or numbers[to] > number + weight:
                return False
    return True


def is_far_tree(question, tree, k, many):
    """Whether a tree is right for many signs, None for no bad row at all."""

    def is_right_leaf(barred, nodes):
        rooms = told_rooms(question, nodes, k)
        if rooms is None or (0, 0) not in rooms or not fits(rooms[(0, 0)], many):
            return False
        ways = Ways(question, barred)
        for place, weight in list(rooms):
            if rooms[(place, weight)] is None and ways.is_end(place):
                return False
            if not is_roomy(ways, rooms, place, weight, k):
                return False
        return True

    return is_right_tree(question, tree, is_right_leaf)


def fits(room, most):
    """Whether a room is no greater than the greatest one; None is less than each number."""
    return room is None or (most is not None and room <= most)


def told_rooms(question, nodes, k):
    """A dict from the places and weights of nodes to their rooms; None if a node is none or stands there twice."""
    rooms = {}
    for p, q, flags, weight, room in nodes:
        place = question.place_of(p, q, flags)
        if place is None or not is_natural(weight) or weight > k or (place, weight) in rooms:
            return None
        if room is not None and not is_natural(room):
            return None
        rooms[(place, weight)] = room
    return rooms


def is_roomy(ways, rooms, place, weight, k):
    """Whether each way within k from a place on leads to a node with a room as small as it has to be."""
    room = rooms[(place, weight)]
    for to, more, signs, _ in ways.ahead(place):
        if weight + more <= k:
            if (to, weight + more) not in rooms:
                return False
            if not fits(rooms[(to, weight + more)], None if room is None else room - signs):
                return False
    return True
