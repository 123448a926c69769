"""WRITEs, PAGEs and SITEs, their KEYs, and the EFFECTs of PAGEs on KEYs."""

from jarvisits.addresses import LETTERS, is_address, is_host, is_label, is_path, is_within, is_word
from jarvisits.errors import BadName, BadPage, BadQuestion, BadSite

MOST_PAGES = 5
MOST_WRITES = 5


def is_name(thing):
    """Whether anything is a NAME."""
    return is_word(thing, LETTERS)


def need_name(thing):
    """A NAME itself; BadName of anything else."""
    if not is_name(thing):
        raise BadName(thing)
    return thing


def is_number_below(thing, many):
    """Whether anything is an integer from 0 on below many; True and False are none."""
    return isinstance(thing, int) and not isinstance(thing, bool) and 0 <= thing < many


def is_write(thing):
    """Whether anything is a WRITE."""
    if not isinstance(thing, tuple) or len(thing) != 5:
        return False
    name, value, domain, folder, guarded = thing
    if not is_name(name) or not isinstance(guarded, bool):
        return False
    if value is not None and not is_label(value):
        return False
    if domain is not None and not is_host(domain):
        return False
    return folder is None or is_path(folder)


def is_key(thing):
    """Whether anything is a KEY, of whatever SITE."""
    if not isinstance(thing, tuple) or len(thing) != 4:
        return False
    name, domain, folder, alone = thing
    return is_name(name) and is_host(domain) and is_path(folder) and isinstance(alone, bool)


def _need_page_form(thing, at):
    """Refuses what is no PAGE, as the item of a SITE with the number at."""
    if not isinstance(thing, tuple) or len(thing) != 2:
        raise BadSite((at,))
    address, writes = thing
    if not is_address(address) or not isinstance(writes, tuple) or len(writes) > MOST_WRITES:
        raise BadSite((at,))
    for number, write in enumerate(writes):
        if not is_write(write):
            raise BadSite((at, number))


def need_site(thing):
    """A SITE itself; BadSite of anything else."""
    if not isinstance(thing, tuple) or not 1 <= len(thing) <= MOST_PAGES:
        raise BadSite(())
    for at, page in enumerate(thing):
        _need_page_form(page, at)
    return thing


def need_page(site, thing):
    """The number of a PAGE of a SITE itself; BadPage of anything else."""
    if not is_number_below(thing, len(site)):
        raise BadPage(thing)
    return thing


def _is_taken(address, write):
    """Whether a PAGE with this ADDRESS has the WRITE TAKEN."""
    host, _, secure = address
    _, _, domain, _, guarded = write
    if guarded and not secure:
        return False
    return domain is None or is_within(host, domain)


def _key(address, write):
    """The KEY of a TAKEN WRITE of a PAGE with this ADDRESS."""
    host, path, _ = address
    name, _, domain, folder, _ = write
    # The FOLDER () is one, so it is None alone that the PATH of the PAGE stands for.
    kept_folder = path[:-1] if folder is None else folder
    if domain is None:
        return (name, host, kept_folder, True)
    return (name, domain, kept_folder, False)


def taken_writes(page):
    """The list of (KEY, VALUE, GUARDED) of the TAKEN WRITEs of a PAGE, in their order."""
    address, writes = page
    return [(_key(address, write), write[1], write[4]) for write in writes if _is_taken(address, write)]


def keys_of(site):
    """The ascending tuple of the KEYs of a SITE."""
    need_site(site)
    return tuple(sorted({key for page in site for key, _, _ in taken_writes(page)}))


def key_of(site, page, number):
    """The KEY of a WRITE, told by the numbers of its PAGE and of itself, or None if it is not TAKEN."""
    need_site(site)
    address, writes = site[need_page(site, page)]
    if not is_number_below(number, len(writes)):
        raise BadQuestion("no number of a WRITE of this PAGE")
    write = writes[number]
    return _key(address, write) if _is_taken(address, write) else None


def effects(site, page):
    """A dict from the KEYs on which a PAGE has an EFFECT, ascending, to the EFFECTs."""
    need_site(site)
    found = {}
    for key, value, guarded in taken_writes(site[need_page(site, page)]):
        found[key] = None if value is None else (value, guarded)
    return {key: found[key] for key in sorted(found)}


def effects_of_pages(site):
    """The list of the dicts from KEYs to EFFECTs of all PAGEs."""
    return [effects(site, page) for page in range(len(need_site(site)))]
