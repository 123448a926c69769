"""SITEs of all sorts, and JARs worked out apart from the program, each KEPT with its age as a number."""

import itertools
import random

HOSTS = (("a", "b"), ("x", "a", "b"), ("y", "a", "b"), ("z", "x", "a", "b"), ("a", "c"))
PATHS = ((), ("p",), ("q",), ("p", "r"), ("p", "r", "s", "t"))


class AgedJar:
    """What is kept, each KEY with its VALUE, its GUARDED and the number of the WRITE by which it came."""

    def __init__(self):
        self.kept = {}
        self.clock = 0

    def write(self, address, write):
        (host, path, secure), (name, value, domain, folder, guarded) = address, write
        self.clock += 1
        if guarded and not secure:
            return
        if domain is not None and ".".join(("",) + host)[-len(".".join(("",) + domain)):] != ".".join(("",) + domain):
            return
        if folder is None:
            folder = path[:max(len(path) - 1, 0)]
        key = (name, host if domain is None else domain, folder, domain is None)
        if value is None:
            self.kept = {other: told for other, told in self.kept.items() if other != key}
        else:
            age = self.kept[key][2] if key in self.kept else self.clock
            self.kept[key] = (value, guarded, age)

    def visit(self, page):
        for write in page[1]:
            self.write(page[0], write)

    def jar(self):
        rows = [((key[0], -len(key[2]), key[2], told[2]), (key, told[0], told[1])) for key, told in self.kept.items()]
        return tuple(kept for _, kept in sorted(rows))

    def sent(self, address):
        host, path, secure = address
        found = []
        for (name, domain, folder, alone), value, guarded in self.jar():
            hosts = [host] if alone else [host[at:] for at in range(len(host))]
            if domain in hosts and folder in [path[:at] for at in range(len(path) + 1)] and secure >= guarded:
                found.append((name, value))
        return tuple(found)


def jar_by_hand(site, row):
    """The AgedJar behind a ROW."""
    aged = AgedJar()
    for page in row:
        aged.visit(site[page])
    return aged


def some_address(chance):
    return (chance.choice(HOSTS), chance.choice(PATHS), chance.random() < 0.5)


def some_write(chance, names="ab"):
    value = chance.choice(("1", "2", "3", None))
    domain = chance.choice((None,) + HOSTS)
    folder = chance.choice((None,) + PATHS[:4])
    return (chance.choice(names), value, domain, folder, chance.random() < 0.3)


def some_site(chance, most_pages=5, most_writes=5, names="ab"):
    """A SITE in which WRITEs often meet at one KEY, and are not always TAKEN."""
    pages = []
    for _ in range(chance.randint(1, most_pages)):
        writes = tuple(some_write(chance, names) for _ in range(chance.randint(0, most_writes)))
        pages.append((some_address(chance), writes))
    return tuple(pages)


def crowded_site(chance, pages, writes, keys):
    """A SITE all of whose WRITEs are TAKEN, at no more than so many KEYs, most of one NAME and one F."""
    host = ("z", "x", "a", "b")
    kinds = [(None, ("p",)), (host, ("p",)), (host[1:], ("p",)), (host[2:], ("p",)), (None, ()), (host, ())][:keys]
    return tuple(
        ((host, (), True), tuple(
            ("id", chance.choice((f"{page}{number}",) * 3 + (None,)), *chance.choice(kinds), chance.random() < 0.5)
            for number in range(writes)
        ))
        for page in range(pages)
    )


def chances(many):
    """So many sources of numbers, the same at each run."""
    return [random.Random(number) for number in range(many)]


def effects_by_hand(page):
    """A dict from the KEYs of the TAKEN WRITEs of a PAGE to what the last one with it leaves, or None."""
    address, writes = page
    found = {}
    for write in writes:
        aged = AgedJar()
        aged.write(address, (write[0], "x") + write[2:])
        for key in aged.kept:
            found[key] = None if write[1] is None else (write[1], write[4])
    return found


def keys_by_hand(site):
    """The ascending list of the KEYs of a SITE."""
    return sorted({key for page in site for key in effects_by_hand(page)})


def few_keys(site, most=6):
    """Whether a SITE has at most so many unlike KEYs."""
    return len(keys_by_hand(site)) <= most


def all_rows(many, most):
    """All ROWs of at most so many VISITs, shorter ones first."""
    return [row for length in range(most + 1) for row in itertools.product(range(many), repeat=length)]


def unlike_rows_by_hand(many):
    """All ROWs of unlike PAGEs, shorter ones first."""
    return [row for length in range(many + 1) for row in itertools.permutations(range(many), length)]


def some_addresses():
    """ADDRESSes with all the HOSTs and PATHs of these SITEs, and some near them."""
    hosts = HOSTS + tuple(("m",) + host for host in HOSTS) + (("b", "a"),)
    paths = PATHS + (("p", "m"), ("p", "r", "s"))
    return [(host, path, secure) for host in hosts for path in paths for secure in (False, True)]
