"""What is checked before something is asked: signs, texts, bounds, keys."""

from nevermiss.basics import is_natural, same_signs
from nevermiss.errors import BadBound, BadKeys, BadSign, TooMany, Unlike
from nevermiss.ground import Ground
from nevermiss.question import Question

MOST_BOUND = 10 ** 40
MOST_GIVEN = 2


def check_signs(one, other):
    """Raises Unlike if two things, as a rule and edits, have not the same signs."""
    if not same_signs(one.signs, other.signs):
        raise Unlike()


def check_text(signs, text):
    """Raises BadSign for the first letter of a text that is no sign."""
    for place, letter in enumerate(text):
        if letter not in signs:
            raise BadSign(place)


def check_bound(k):
    """Raises BadBound if k is no bound; None is one."""
    if k is not None:
        check_whole(k, MOST_BOUND)


def check_whole(k, most):
    """Raises BadBound if k is no integer from 0 to the greatest one."""
    if not is_natural(k) or k > most:
        raise BadBound(k)


def check_keys(rule, keys):
    """Raises BadKeys for the first element that is no key of the rule or stands ahead already."""
    for at, key in enumerate(keys):
        if key not in rule.all_keys or key in keys[:at]:
            raise BadKeys(key)


def asked(rule, edits, given, wanted):
    """The question about all texts with the keys that are given and those that are wanted."""
    if len(given) > MOST_GIVEN:
        raise TooMany("given")
    if wanted is None:
        wanted = [key for key in rule.all_keys if key not in given]
    check_keys(rule, [*given, *wanted])
    return Question(Ground(rule, edits), given, wanted)
