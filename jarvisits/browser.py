"""BROWSERs: a SITE, a JAR and the ROW so far, with VISITs that can be undone."""

from jarvisits.addresses import need_address
from jarvisits.jars import jar_after, pairs_sent, value_read
from jarvisits.sites import is_key, need_name, need_page, need_site, taken_writes

# A moment is (JAR, what led to it, the moment ahead). It is never changed, so that it is enough to
# keep one to come back to it, with all that can be undone from there.
FIRST_MOMENT = ((), None, None)
CLEARED = "cleared"


class Trial:
    """For one with statement over a Browser, behind whose block all is as it was ahead of it."""

    def __init__(self, browser):
        self._held = browser
        self._ahead = FIRST_MOMENT

    def __enter__(self):
        self._ahead = self._held._moment
        return self._held

    def __exit__(self, kind, value, trace):
        self._held._moment = self._ahead


class Browser:
    """A BROWSER of a SITE, at first without anything kept or visited."""

    def __init__(self, site):
        self._site = need_site(site)
        self._moment = FIRST_MOMENT

    @property
    def site(self):
        """The SITE."""
        return self._site

    @property
    def jar(self):
        """The JAR."""
        return self._moment[0]

    @property
    def row(self):
        """The ROW of the VISITs so far, since all was cleared last."""
        pages = []
        _, led, ahead = self._moment
        while ahead is not None and led != CLEARED:
            pages.append(led)
            _, led, ahead = ahead
        return tuple(pages[::-1])

    def visit(self, page):
        """A VISIT of the PAGE with this number; what was SENT to its ADDRESS ahead of its WRITEs."""
        visited_page = self._site[need_page(self._site, page)]
        pairs = pairs_sent(self.jar, visited_page[0])
        self._moment = (jar_after(self.jar, taken_writes(visited_page)), page, self._moment)
        return pairs

    def sent(self, address):
        """What is SENT of the JAR to an ADDRESS."""
        return pairs_sent(self.jar, need_address(address))

    def read(self, address, name):
        """The VALUE that is READ of a NAME at an ADDRESS, or None."""
        need_address(address)
        need_name(name)
        return value_read(self.jar, address, name)

    def undo(self):
        """Takes the last VISIT back, or the last clear(), and returns whether there was one."""
        ahead = self._moment[2]
        if ahead is None:
            return False
        self._moment = ahead
        return True

    def clear(self):
        """Empties the JAR and the ROW; undo() takes this back as one VISIT."""
        self._moment = ((), CLEARED, self._moment)

    def trial(self):
        """An object for one with statement, behind whose block all is as it was ahead of it."""
        return Trial(self)

    def __len__(self):
        return len(self.jar)

    def __contains__(self, key):
        return is_key(key) and key in [kept[0] for kept in self.jar]

    def __eq__(self, other):
        return isinstance(other, Browser) and self.site == other.site and self.jar == other.jar


def under(manager, deed):
    """What deed(one) returns in a with statement over manager, one being what this gives to as."""
    with manager as one:
        return deed(one)
