"""NAMEs that are DOUBLED, and PAGEs that SIGN a NAME OUT or LACK WRITEs for that."""

from jarvisits.addresses import is_within
from jarvisits.jars import behind, pairs_sent
from jarvisits.kinds import kinds
from jarvisits.rows import need_few_keys, unlike_rows
from jarvisits.sites import MOST_WRITES, effects_of_pages, keys_of, need_name, need_page

# Two KEYs that are kept together came by two PAGEs, and so they are behind the last VISITs of these alone.
ENOUGH_VISITS = 2


def _need_name_of(site, name):
    """Refuses what is no SITE, then what is no NAME, then too many KEYs."""
    keys = keys_of(site)
    need_name(name)
    need_few_keys(keys)


def _need_page_and_name(site, page, name):
    """Refuses what is no SITE, then what is no number of a PAGE, then what is no NAME, then too many KEYs."""
    keys = keys_of(site)
    need_page(site, page)
    need_name(name)
    need_few_keys(keys)


def _short_rows(site):
    """The list of the ROWs of unlike PAGEs behind which all KEPTs are that any two KEPTs come from."""
    return [row for row in unlike_rows(len(site)) if len(row) <= ENOUGH_VISITS]


def doubled(site, name):
    """A pair (ROW, ADDRESS) by which the NAME is DOUBLED, the ROW as short as any, or None."""
    _need_name_of(site, name)
    addresses = kinds(site)
    for row in _short_rows(site):
        jar = behind(site, row)
        for address in addresses:
            names = [sent_name for sent_name, _ in pairs_sent(jar, address)]
            if names.count(name) > 1:
                return (row, address)
    return None


def pairs_kept(site, name):
    """The ascending tuple of the ascending pairs of KEYs of the NAME that are kept together behind some ROW."""
    _need_name_of(site, name)
    found = set()
    for row in _short_rows(site):
        keys = sorted([key for key, _, _ in behind(site, row) if key[0] == name])
        for at, key in enumerate(keys):
            for further in keys[at + 1:]:
                found.add((key, further))
    return tuple(sorted(found))


def lacking(site, page, name):
    """The ascending tuple of the KEYs of the NAME that the PAGE LACKS."""
    _need_page_and_name(site, page, name)
    effects_of = effects_of_pages(site)
    own = effects_of[page]
    put = [key for key in keys_of(site) if any([found.get(key) is not None for found in effects_of])]
    return tuple([key for key in put if key[0] == name and (key not in own or own[key] is not None)])


def signs_out(site, page, name):
    """Whether the PAGE SIGNS the NAME OUT."""
    return lacking(site, page, name) == ()


def stays(site, page, name):
    """A pair (ROW, ADDRESS), the ROW ending with the PAGE, behind which the ADDRESS is SENT the NAME, or None."""
    _need_page_and_name(site, page, name)
    for row in [(page,)] + [(other, page) for other in range(len(site))]:
        for (kept_name, domain, folder, _), _, _ in behind(site, row):
            if kept_name == name:
                return (row, (domain, folder, True))
    return None


def beyond(site, page, name):
    """The ascending tuple of the KEYs that the PAGE LACKS and none of its WRITEs can have."""
    lacked = lacking(site, page, name)
    host = site[page][0][0]
    return tuple([key for key in lacked if host != key[1] and (key[3] or not is_within(host, key[1]))])


def _removing(key):
    """The WRITE that takes out what is kept with a KEY."""
    name, domain, folder, alone = key
    return (name, None, None if alone else domain, folder, False)


def mended(site, page, name):
    """The SITE with the WRITEs more at the end of the PAGE that make it SIGN the NAME OUT, or None."""
    lacked = lacking(site, page, name)
    if not lacked:
        return site
    address, writes = site[page]
    if beyond(site, page, name) or len(writes) + len(lacked) > MOST_WRITES:
        return None
    more = tuple([_removing(key) for key in lacked])
    return site[:page] + ((address, writes + more),) + site[page + 1:]
