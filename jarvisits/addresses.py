"""HOSTs, PATHs and ADDRESSes, and which lie within or below which."""

from jarvisits.errors import BadAddress

LETTERS = "abcdefghijklmnopqrstuvwxyz"
SIGNS = "abcdefghijklmnopqrstuvwxyz0123456789"
LONGEST_WORD = 6
LEAST_LABELS = 2
MOST_LABELS = 5
MOST_SEGMENTS = 4


def is_word(thing, signs):
    """Whether anything is a string of 1 to 6 of these signs."""
    if not isinstance(thing, str) or not 1 <= len(thing) <= LONGEST_WORD:
        return False
    return all([sign in signs for sign in thing])


def is_label(thing):
    """Whether anything is a LABEL; a SEGMENT, and a VALUE that is told, has the same form."""
    return is_word(thing, SIGNS)


def is_host(thing):
    """Whether anything is a HOST."""
    if not isinstance(thing, tuple) or not LEAST_LABELS <= len(thing) <= MOST_LABELS:
        return False
    return all([is_label(label) for label in thing])


def is_path(thing):
    """Whether anything is a PATH."""
    if not isinstance(thing, tuple) or len(thing) > MOST_SEGMENTS:
        return False
    return all([is_label(segment) for segment in thing])


def is_address(thing):
    """Whether anything is an ADDRESS."""
    if not isinstance(thing, tuple) or len(thing) != 3:
        return False
    host, path, secure = thing
    return is_host(host) and is_path(path) and isinstance(secure, bool)


def need_address(thing):
    """An ADDRESS itself; BadAddress of anything else."""
    if not is_address(thing):
        raise BadAddress(thing)
    return thing


def is_within(host, other):
    """Whether a HOST is WITHIN another one."""
    further = len(host) - len(other)
    return further >= 0 and host[further:] == other


def is_below(path, other):
    """Whether a PATH is BELOW another one."""
    return path[:len(other)] == other
