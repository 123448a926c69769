"""The forms of lines as [17] tells them, as patterns that are taken apart character by character.

A pattern is a set of signs (a string), ("both", one, other), ("either", one, other), ("many", one), or one of
NOTHING and NEVER. What is left of a pattern behind a character tells where no line goes on.
"""

NOTHING = ("nothing",)
NEVER = ("never",)
SMALL = "abcdefghijklmnopqrstuvwxyz"
SIGNS = SMALL + "0123456789"


def both(*patterns):
    made = NOTHING
    for pattern in reversed(patterns):
        if NEVER in (pattern, made):
            made = NEVER
        elif made == NOTHING:
            made = pattern
        elif pattern != NOTHING:
            made = ("both", pattern, made)
    return made


def either(*patterns):
    made = NEVER
    for pattern in reversed(patterns):
        if made == NEVER or pattern == made:
            made = pattern
        elif pattern != NEVER:
            made = ("either", pattern, made)
    return made


def word(text):
    return both(*text)


def up_to_six(signs):
    made = signs
    for _ in range(5):
        made = both(signs, either(NOTHING, made))
    return made


LABEL = up_to_six(SIGNS)
HOST = both(LABEL, ".", LABEL, ("many", both(".", LABEL)))
PATH = both("/", either(NOTHING, both(LABEL, ("many", both("/", LABEL)))))
ADDRESS = both(either(word("https://"), word("http://")), HOST, PATH)
PARTS = both(
    either(NOTHING, both(word("; Domain="), HOST)), either(NOTHING, both(word("; Path="), PATH)),
    either(NOTHING, word("; Secure")),
)
WRITE = both(up_to_six(SMALL), "=", either(both(LABEL, PARTS), both(PARTS, word("; Max-Age=0"))))
PAGE_LINE = both(word("page "), ADDRESS)
ANY_LINE = either(PAGE_LINE, both(word("set "), WRITE))


def may_end(pattern):
    if isinstance(pattern, str) or pattern == NEVER:
        return False
    if pattern[0] == "both":
        return may_end(pattern[1]) and may_end(pattern[2])
    if pattern[0] == "either":
        return may_end(pattern[1]) or may_end(pattern[2])
    return True


def left(pattern, sign):
    """What is left of a pattern behind a sign."""
    if isinstance(pattern, str):
        return NOTHING if sign in pattern else NEVER
    if pattern[0] == "both":
        further = left(pattern[2], sign) if may_end(pattern[1]) else NEVER
        return either(both(left(pattern[1], sign), pattern[2]), further)
    if pattern[0] == "either":
        return either(left(pattern[1], sign), left(pattern[2], sign))
    if pattern[0] == "many":
        return both(left(pattern[1], sign), pattern)
    return NEVER


def fault(text):
    """The line and the place of the first fault of a text, or None if all lines can stand."""
    for number, line in enumerate(text.split("\n")):
        pattern = PAGE_LINE if number == 0 else ANY_LINE
        for at, sign in enumerate(line):
            pattern = left(pattern, sign)
            if pattern == NEVER:
                return (number, at)
        if not may_end(pattern):
            return (number, len(line))
    return None
