"""The errors with which arguments are refused.

Their texts are fixed: what was passed may be too deep or too great to be written out.
"""


class JarError(ValueError):
    """Any argument that is refused."""


class BadSite(JarError):
    """No SITE; place is (), or (N,) of a PAGE, or (N, M) of a WRITE."""

    def __init__(self, place):
        JarError.__init__(self, "no SITE: the attribute place tells where")
        self.place = place


class BadText(JarError):
    """No written form; line and place are counted from 0, or both -1 for no string."""

    def __init__(self, line, place):
        JarError.__init__(self, "no written form of a SITE: the attributes line and place tell where")
        self.line = line
        self.place = place


class BadAddress(JarError):
    """No ADDRESS; given is what was passed."""

    def __init__(self, given):
        JarError.__init__(self, "no ADDRESS: the attribute given is what was passed")
        self.given = given


class BadRow(JarError):
    """No ROW; given is what was passed, the whole of it."""

    def __init__(self, given):
        JarError.__init__(self, "no ROW of the SITE: the attribute given is what was passed")
        self.given = given


class BadWish(JarError):
    """No WISH; place is None for what is no tuple, else the number of an item."""

    def __init__(self, place):
        JarError.__init__(self, "no WISH of the SITE: the attribute place tells where")
        self.place = place


class BadName(JarError):
    """No NAME; given is what was passed."""

    def __init__(self, given):
        JarError.__init__(self, "no NAME: the attribute given is what was passed")
        self.given = given


class BadPage(JarError):
    """No number of a PAGE; given is what was passed."""

    def __init__(self, given):
        JarError.__init__(self, "no number of a PAGE of the SITE: the attribute given is what was passed")
        self.given = given


class BadJar(JarError):
    """No JAR; place is None for what is no tuple, else the number of an item."""

    def __init__(self, place):
        JarError.__init__(self, "no JAR: the attribute place tells where")
        self.place = place


class TooMany(JarError):
    """More unlike KEYs than a function over all ROWs takes; most is how many it takes."""

    def __init__(self, most):
        JarError.__init__(self, "too many unlike KEYs: the attribute most is how many there may be")
        self.most = most


class BadQuestion(JarError):
    """What is asked cannot be asked; the text tells why."""
