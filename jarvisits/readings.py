"""What can be READ behind a PAGE, and which NAMEs are surely SENT."""

from jarvisits.addresses import need_address
from jarvisits.jars import behind, jar_after, pairs_sent, value_read
from jarvisits.rows import jars, need_few_keys
from jarvisits.sites import keys_of, need_name, need_page, need_site, taken_writes


def readings(site, page, address, name):
    """A dict from the READINGs, None first, to ROWs as short as any that end with the PAGE, behind which they are."""
    need_page(need_site(site), page)
    need_address(address)
    need_name(name)
    rows_to = jars(site)
    writes = taken_writes(site[page])
    rows = {}
    for jar, row in rows_to.items():
        value = value_read(jar_after(jar, writes), address, name)
        if value not in rows or len(row) + 1 < len(rows[value]):
            rows[value] = row + (page,)
    values = sorted([value for value in rows if value is not None])
    return {value: rows[value] for value in ([None] if None in rows else []) + values}


def sure(site, page, address):
    """The ascending tuple of the NAMEs that are SURE at an ADDRESS behind the PAGE."""
    keys = keys_of(site)
    need_page(site, page)
    need_address(address)
    need_few_keys(keys)
    return tuple(sorted({name for name, _ in pairs_sent(behind(site, (page,)), address)}))
