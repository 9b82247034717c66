"""Rules: two machines that give keys to the two texts of a pair."""

from nevermiss.basics import MOST_KEYS, key_list, same_signs
from nevermiss.errors import TooMany, Unlike
from nevermiss.parts import holding


class Rule:
    """A left machine for the first text of a pair and a right machine for the second one."""

    def __init__(self, left, right=None):
        if right is None:
            right = left
        if not same_signs(left.signs, right.signs):
            raise Unlike()
        self.left = left
        self.right = right
        self.signs = left.signs
        self.all_keys = key_list(left.all_keys + right.all_keys)
        if len(self.all_keys) > MOST_KEYS:
            raise TooMany("keys")

    def __eq__(self, other):
        return isinstance(other, Rule) and self.left == other.left and self.right == other.right

    def shared(self, x, y):
        """The keys that x has by the left machine and y by the right one."""
        first = self.left.keys_of(x)
        second = self.right.keys_of(y)
        return tuple([key for key in first if key in second])

    def meets(self, x, y):
        """Whether x and y share a key."""
        return len(self.shared(x, y)) > 0

    def narrowed(self, keys):
        """The rule of both machines kept to these keys."""
        return Rule(holding(self.left, keys), holding(self.right, keys))

    def turned(self):
        """The rule with the two machines exchanged."""
        return Rule(self.right, self.left)
