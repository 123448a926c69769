"""WISHes: whether told values can be kept together, with a ROW that leaves them or a BAR that shows that none does."""

from jarvisits.addresses import is_label
from jarvisits.errors import BadWish
from jarvisits.rows import need_few_keys, unlike_rows
from jarvisits.sites import effects_of_pages, is_key, is_number_below, keys_of


def _is_worth(thing):
    """Whether anything is a WORTH."""
    if thing is None:
        return True
    if not isinstance(thing, tuple) or len(thing) != 2:
        return False
    value, guarded = thing
    return is_label(value) and isinstance(guarded, bool)


def _is_wished(keys, thing):
    """Whether anything is a pair of one of these KEYs and a WORTH."""
    if not isinstance(thing, tuple) or len(thing) != 2:
        return False
    key, worth = thing
    # 1 is equal to True, so what is equal to a KEY need not be one.
    return is_key(key) and key in keys and _is_worth(worth)


def need_wish(site, thing):
    """A WISH of a SITE itself; BadWish of anything else."""
    keys = keys_of(site)
    if not isinstance(thing, tuple):
        raise BadWish(None)
    for at, item in enumerate(thing):
        if not _is_wished(keys, item) or (at > 0 and item[0] <= thing[at - 1][0]):
            raise BadWish(at)
    need_few_keys(keys)
    return thing


def _kept_behind(effects_of, row):
    """A dict from KEYs to the EFFECTs that the ROW leaves on them; those that it does not name are not kept."""
    kept = {}
    for page in row:
        for key, effect in effects_of[page].items():
            kept[key] = effect
    return kept


def row_for(site, wish):
    """A ROW of unlike PAGEs, as short as any of those, behind which the JAR MEETS the WISH, or None."""
    need_wish(site, wish)
    effects_of = effects_of_pages(site)
    for row in unlike_rows(len(site)):
        kept = _kept_behind(effects_of, row)
        if all([kept.get(key) == worth for key, worth in wish]):
            return row
    return None


def _differs(found, wish):
    """Whether one of these EFFECTs of a PAGE, by their KEYs, is another one than the WORTH of its KEY."""
    return any([key in found and found[key] != worth for key, worth in wish])


def _bars(effects_of, wish, pages):
    """Whether an ascending tuple of unlike numbers of PAGEs is a BAR."""
    outside = [found for page, found in enumerate(effects_of) if page not in pages]
    untouched = [(key, worth) for key, worth in wish if not any([key in found for found in outside])]
    if all([worth is None for _, worth in untouched]):
        return False
    return all([_differs(effects_of[page], untouched) for page in pages])


def _some_pages(many):
    """The list of the ascending tuples of unlike numbers of so many PAGEs."""
    found = [()]
    for page in range(many):
        found = found + [pages + (page,) for pages in found]
    return found


def bar(site, wish):
    """A BAR of the WISH, or None."""
    need_wish(site, wish)
    effects_of = effects_of_pages(site)
    for pages in _some_pages(len(site)):
        if _bars(effects_of, wish, pages):
            return pages
    return None


def _is_ascending(thing, many):
    """Whether anything is an ascending tuple of unlike numbers below many."""
    if not isinstance(thing, tuple) or not all([is_number_below(item, many) for item in thing]):
        return False
    return all([ahead < item for ahead, item in zip(thing, thing[1:])])


def is_bar(site, wish, thing):
    """Whether anything is a BAR of the WISH."""
    need_wish(site, wish)
    return _is_ascending(thing, len(site)) and _bars(effects_of_pages(site), wish, thing)
