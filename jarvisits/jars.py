"""JARs: what VISITs leave in them, and what of it is SENT to an ADDRESS."""

from jarvisits.addresses import is_below, is_label, is_within, need_address
from jarvisits.errors import BadJar, BadRow
from jarvisits.sites import is_key, is_number_below, need_name, need_page, need_site, taken_writes


def is_kept(thing):
    """Whether anything is a KEPT, with whatever KEY."""
    if not isinstance(thing, tuple) or len(thing) != 3:
        return False
    key, value, guarded = thing
    return is_key(key) and is_label(value) and isinstance(guarded, bool)


def _place(kept):
    """By what the KEPTs of a JAR ascend; those for which it is the same stand by their age."""
    name, _, folder, _ = kept[0]
    return (name, -len(folder), folder)


def need_jar(thing):
    """A JAR itself, with whatever KEYs, of whatever age; BadJar of anything else."""
    if not isinstance(thing, tuple):
        raise BadJar(None)
    seen = set()
    for at, kept in enumerate(thing):
        if not is_kept(kept) or kept[0] in seen:
            raise BadJar(at)
        if at > 0 and _place(kept) < _place(thing[at - 1]):
            raise BadJar(at)
        seen.add(kept[0])
    return thing


def _need_row(site, thing):
    """Refuses what is no ROW of a SITE."""
    if not isinstance(thing, tuple) or not all([is_number_below(page, len(site)) for page in thing]):
        raise BadRow(thing)


def _do_writes(table, writes):
    """Does TAKEN WRITEs in a dict from the KEYs that are kept to (VALUE, GUARDED)."""
    # A dict stands by age as a JAR does: writing over leaves a KEY where it is, a new one comes last.
    for key, value, guarded in writes:
        if value is None:
            table.pop(key, None)
        else:
            table[key] = (value, guarded)


def _jar_of(table):
    """The JAR of a dict from the KEYs that are kept, the elder ones first, to (VALUE, GUARDED)."""
    # sorted leaves those that have the same place in the order of the dict, which is that of their age.
    return tuple(sorted([(key, value, guarded) for key, (value, guarded) in table.items()], key=_place))


def jar_after(jar, writes):
    """The JAR that comes of a JAR by TAKEN WRITEs."""
    table = {key: (value, guarded) for key, value, guarded in jar}
    _do_writes(table, writes)
    return _jar_of(table)


def visited(jar, site, page):
    """The JAR behind a VISIT of a PAGE from a JAR."""
    need_jar(jar)
    need_site(site)
    return jar_after(jar, taken_writes(site[need_page(site, page)]))


def behind(site, row):
    """The JAR BEHIND a ROW."""
    need_site(site)
    _need_row(site, row)
    writes_of = [taken_writes(page) for page in site]
    table = {}
    for page in row:
        _do_writes(table, writes_of[page])
    return _jar_of(table)


def reaches(key, host):
    """Whether a KEPT with this KEY GOES to some ADDRESS with this HOST."""
    _, domain, _, alone = key
    return host == domain or (not alone and is_within(host, domain))


def _goes(kept, address):
    """Whether a KEPT GOES to an ADDRESS."""
    key, _, guarded = kept
    host, path, secure = address
    if guarded and not secure:
        return False
    return reaches(key, host) and is_below(path, key[2])


def pairs_sent(jar, address):
    """The pairs (NAME, VALUE) that are SENT to an ADDRESS of what is a JAR, in its order."""
    return tuple([(kept[0][0], kept[1]) for kept in jar if _goes(kept, address)])


def sent(jar, address):
    """The tuple of the pairs (NAME, VALUE) that are SENT of a JAR to an ADDRESS."""
    need_jar(jar)
    need_address(address)
    return pairs_sent(jar, address)


def value_read(jar, address, name):
    """The VALUE that is READ of a NAME at an ADDRESS of what is a JAR, or None."""
    for sent_name, value in pairs_sent(jar, address):
        if sent_name == name:
            return value
    return None


def read(jar, address, name):
    """The VALUE that is READ of a NAME at an ADDRESS, or None."""
    need_jar(jar)
    need_address(address)
    need_name(name)
    return value_read(jar, address, name)
