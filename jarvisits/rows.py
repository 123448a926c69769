"""All ROWs of a SITE: which JARs there are behind them, and least ROWs that lead there."""

from jarvisits.errors import TooMany
from jarvisits.jars import jar_after, need_jar
from jarvisits.sites import keys_of, need_site, taken_writes

MOST_KEYS = 6


def need_few_keys(keys):
    """Refuses more unlike KEYs than a function over all ROWs takes; equal ones count once."""
    if len(set(keys)) > MOST_KEYS:
        raise TooMany(MOST_KEYS)


def unlike_rows(many):
    """The list of all ROWs of unlike PAGEs of so many, the shorter ones first."""
    found = []
    latest = [()]
    while latest:
        found += latest
        latest = [row + (page,) for row in latest for page in range(many) if page not in row]
    return found


def jars(site):
    """A dict from all JARs BEHIND ROWs to ROWs as short as any that lead to them."""
    need_site(site)
    need_few_keys(keys_of(site))
    writes_of = [taken_writes(page) for page in site]
    rows = {(): ()}
    latest = [()]
    # All ROWs of one length come ahead of longer ones, so the first that leads to a JAR is as short as any.
    while latest:
        further = []
        for jar in latest:
            for page, writes in enumerate(writes_of):
                reached = jar_after(jar, writes)
                if reached not in rows:
                    rows[reached] = rows[jar] + (page,)
                    further.append(reached)
        latest = further
    return rows


def row_to(site, jar):
    """A ROW as short as any behind which there is this JAR, or None."""
    need_site(site)
    need_jar(jar)
    return jars(site).get(jar)
