"""A desk: lines that are told to a BROWSER, and answered in text."""

from jarvisits.browser import Browser
from jarvisits.errors import BadPage, JarError
from jarvisits.readings import sure
from jarvisits.signing import doubled, stays
from jarvisits.texts import read_address, read_site

FIGURES = "0123456789"
REFUSED = "no"
NOTHING = "-"


def _page(word):
    """The number that one figure tells; BadPage of any other word."""
    if len(word) != 1 or word not in FIGURES:
        raise BadPage(word)
    return int(word)


def _pairs_text(pairs):
    """Pairs of a NAME and a VALUE."""
    return "; ".join([f"{name}={value}" for name, value in pairs]) or NOTHING


def _words_text(words):
    """Words with one space between two."""
    return " ".join(words) or NOTHING


def _row_text(row):
    """The numbers of a ROW."""
    return _words_text([str(page) for page in row])


def _visit(browser, words):
    return _pairs_text(browser.visit(_page(words[1])))


def _sent(browser, words):
    return _pairs_text(browser.sent(read_address(words[1])))


def _read(browser, words):
    value = browser.read(read_address(words[1]), words[2])
    return NOTHING if value is None else value


def _undo(browser, _):
    return "done" if browser.undo() else "nothing"


def _clear(browser, _):
    browser.clear()
    return "done"


def _kept(browser, _):
    return str(len(browser))


def _row(browser, _):
    return _row_text(browser.row)


def _out(browser, words):
    found = stays(browser.site, _page(words[1]), words[2])
    return "yes" if found is None else _row_text(found[0])


def _double(browser, words):
    found = doubled(browser.site, words[1])
    return "never" if found is None else _row_text(found[0])


def _sure(browser, words):
    return _words_text(sure(browser.site, _page(words[1]), read_address(words[2])))


# What is done for a line, by its first word and the number of its words.
DEEDS = {
    ("visit", 2): _visit,
    ("sent", 2): _sent,
    ("read", 3): _read,
    ("undo", 1): _undo,
    ("clear", 1): _clear,
    ("kept", 1): _kept,
    ("row", 1): _row,
    ("out", 3): _out,
    ("double", 2): _double,
    ("sure", 3): _sure,
}


class Desk:
    """A desk with a Browser of the SITE whose written form is told."""

    def __init__(self, text):
        self._browser = Browser(read_site(text))

    @property
    def browser(self):
        """The very Browser."""
        return self._browser

    def say(self, line):
        """The answer to a line; what is none is refused, and so is what raises an error, and changes nothing."""
        if not isinstance(line, str):
            return REFUSED
        words = line.split(" ")
        form = (words[0], len(words))
        if form not in DEEDS:
            return REFUSED
        deed = DEEDS[form]
        try:
            return deed(self._browser, words)
        except JarError:
            return REFUSED
