"""Whether two SITEs send alike behind all ROWs, and which WRITEs of a SITE are NEEDLESS."""

from jarvisits.errors import BadQuestion
from jarvisits.jars import behind, jar_after, pairs_sent, reaches
from jarvisits.kinds import host_kinds, kinds_among
from jarvisits.rows import need_few_keys
from jarvisits.sites import keys_of, need_site, taken_writes


def _shown(jar):
    """What is SENT of a JAR to where all of it GOES: the VALUEs if this is SECURE, and those if it is not."""
    return (tuple([kept[1] for kept in jar]), tuple([kept[1] for kept in jar if not kept[2]]))


class Watch:
    """The JARs that there can be of some WRITEs of each PAGE, by numbers, as long rows of VISITs meet them often."""

    def __init__(self, writes_of):
        self.writes_of = writes_of
        self.numbers = {(): 0}
        self.found = [()]
        self.shown = [_shown(())]
        self.steps = {}

    def number_of(self, jar):
        """The number of a JAR, a new one if it has none."""
        if jar not in self.numbers:
            self.numbers[jar] = len(self.found)
            self.found.append(jar)
            self.shown.append(_shown(jar))
        return self.numbers[jar]

    def step(self, number, page):
        """The number of the JAR behind a VISIT, from the JAR with this number."""
        if (number, page) not in self.steps:
            self.steps[(number, page)] = self.number_of(jar_after(self.found[number], self.writes_of[page]))
        return self.steps[(number, page)]


def _first_unlike_row(one, other):
    """A ROW as short as any behind which two Watches show unlike things, or None."""
    rows = {(0, 0): ()}
    latest = [(0, 0)]
    while latest:
        further = []
        for numbers in latest:
            for page in range(len(one.writes_of)):
                reached = (one.step(numbers[0], page), other.step(numbers[1], page))
                if reached in rows:
                    continue
                rows[reached] = rows[numbers] + (page,)
                if one.shown[reached[0]] != other.shown[reached[1]]:
                    return rows[reached]
                further.append(reached)
        latest = further
    return None


def _groups(keys):
    """The list of the unlike groups of KEYs of one NAME and one F that reach one HOST."""
    found = {}
    for host in host_kinds(keys):
        near = [key for key in keys if reaches(key, host)]
        for name, folder in sorted({(key[0], key[2]) for key in near}):
            found[tuple([key for key in near if key[0] == name and key[2] == folder])] = True
    return list(found)


def _writes_at(site, keys):
    """The list of those TAKEN WRITEs of each PAGE that have one of these KEYs."""
    return [[write for write in taken_writes(page) if write[0] in keys] for page in site]


def _least_parting_row(one, other, keys):
    """A ROW as short as any by which two SITEs with these KEYs are parted, or None."""
    # What is SENT of a NAME below a PATH ends with what is SENT of it at shorter ones. So if all that is
    # SENT is alike, it is so for each F alone, and the groups can be looked at one by one.
    least = None
    for group in _groups(keys):
        writes, other_writes = _writes_at(one, group), _writes_at(other, group)
        if writes != other_writes:
            row = _first_unlike_row(Watch(writes), Watch(other_writes))
            if row is not None and (least is None or len(row) < len(least)):
                least = row
    return least


def _keys_of_both(one, other):
    """The ascending list of the KEYs of two SITEs, about which it can be asked whether they are ALIKE."""
    need_site(one)
    need_site(other)
    if len(one) != len(other):
        raise BadQuestion("the two SITEs have unlike numbers of PAGEs")
    keys = sorted(set(keys_of(one) + keys_of(other)))
    need_few_keys(keys)
    return keys


def alike(one, other):
    """Whether two SITEs are ALIKE."""
    return _least_parting_row(one, other, _keys_of_both(one, other)) is None


def parted(one, other):
    """A LEAST PARTING (ROW, ADDRESS) of two SITEs, or None."""
    keys = _keys_of_both(one, other)
    row = _least_parting_row(one, other, keys)
    if row is None:
        return None
    jar, other_jar = behind(one, row), behind(other, row)
    unlike = [address for address in kinds_among(keys) if pairs_sent(jar, address) != pairs_sent(other_jar, address)]
    return (row, unlike[0])


def _without(site, page, number):
    """The SITE without the WRITE with this number of this PAGE."""
    address, writes = site[page]
    return site[:page] + ((address, writes[:number] + writes[number + 1:]),) + site[page + 1:]


def _write_places(site):
    """The ascending list of the pairs of the numbers of all WRITEs."""
    return [(page, number) for page, (_, writes) in enumerate(site) for number in range(len(writes))]


def _is_needless(site, page, number, keys):
    """Whether the WRITE with this number of this PAGE of a SITE with these KEYs is NEEDLESS."""
    return _least_parting_row(site, _without(site, page, number), keys) is None


def needless(site):
    """The ascending list of the pairs (PAGE, WRITE) of the numbers of the NEEDLESS WRITEs."""
    keys = keys_of(site)
    need_few_keys(keys)
    places = _write_places(site)
    return [(page, number) for page, number in places if _is_needless(site, page, number, keys)]


def _without_first_needless(site, keys):
    """The SITE without its first NEEDLESS WRITE, or None if it has none."""
    for page, number in _write_places(site):
        if _is_needless(site, page, number, keys):
            return _without(site, page, number)
    return None


def lean(site):
    """The LEAN form of a SITE."""
    keys = keys_of(site)
    need_few_keys(keys)
    left = site
    # With a WRITE left out, an earlier one may be NEEDLESS that was not, so each search begins at the first.
    shorter = _without_first_needless(left, keys)
    while shorter is not None:
        left = shorter
        shorter = _without_first_needless(left, keys)
    return left
