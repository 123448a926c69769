"""kinds.py: [7], and what [1] says of every module."""

import copy
import itertools
import unittest

from jarvisits import kinds as kinds_module
from jarvisits.errors import BadAddress, BadSite
from jarvisits.jars import behind, sent
from jarvisits.kinds import kind_of, kinds
from jarvisits.sites import keys_of
from models import HOSTS, all_rows, chances, keys_by_hand, some_address, some_addresses, some_site
from things import Unlike, deep, integers, odd_things, refused, replaced

HOST = ("www", "shop", "org")
SHOP = ("shop", "org")
FIVE = ("a", "b", "c", "d", "e")
FAR = ("far", "net")


def page_at(host, *writes, path=(), secure=True):
    return ((host, path, secure), writes)


def put(domain=None, name="id", folder=(), value="v", guarded=False):
    return (name, value, domain, folder, guarded)


def host_of(site, host):
    """The HOST of the KIND of an ADDRESS with this HOST, which does not hang on the rest of it."""
    found = {kind_of(site, (host, path, secure))[0] for path in ((), ("p", "q")) for secure in (False, True)}
    return found.pop() if len(found) == 1 else None


def path_of(site, path):
    """The PATH of the KIND of an ADDRESS with this PATH, which does not hang on the rest of it."""
    found = {kind_of(site, (host, path, secure))[1] for host in (HOST, FAR, FIVE) for secure in (False, True)}
    return found.pop() if len(found) == 1 else None


def kind_by_hand(site, address):
    """The KIND by the words of [7], worked out apart from the program."""
    keys = keys_by_hand(site)
    host, path, secure = address
    domains = {key[1] for key in keys}
    if host not in domains:
        ends = [host[at:] for at in range(1, len(host) - 1)]
        rest = next((end for end in ends if any(key[1] == end and not key[3] for key in keys)), ("a",))
        host = next((sign,) + rest for sign in "abcdefghijklmnopqrstuvwxyz" if (sign,) + rest not in domains)
    folders = {key[2] for key in keys}
    path = next((path[:at] for at in range(len(path), 0, -1) if path[:at] in folders), ())
    return (host, path, secure)


class Hosts(unittest.TestCase):
    def test_the_domain_of_a_key(self):
        site = (page_at(HOST, put(), put(SHOP, name="no")), page_at(FAR, put()))
        for host in (HOST, SHOP, FAR):
            self.assertEqual(host_of(site, host), host)

    def test_the_domain_of_a_key_that_is_only_taken_out(self):
        self.assertEqual(host_of((page_at(HOST, put(SHOP, value=None)),), ("m", "shop", "org")), ("a",) + SHOP)
        self.assertEqual(host_of((page_at(HOST, put(value=None)),), HOST), HOST)

    def test_the_domain_of_a_write_that_is_not_taken_counts_for_nothing(self):
        site = (page_at(HOST, put(FAR), put(SHOP, guarded=True), secure=False),)
        for host in (HOST, SHOP, FAR):
            self.assertEqual(host_of(site, host), ("a", "a"))

    def test_within_one_that_is_not_alone(self):
        site = (page_at(HOST, put(SHOP)),)
        for host in (("m",) + SHOP, HOST, ("a",) + SHOP, ("b",) + SHOP, ("m", "n") + SHOP, ("x", "y", "z") + SHOP):
            self.assertEqual(host_of(site, host), ("a",) + SHOP)

    def test_within_several_it_is_the_longest(self):
        site = (page_at(("v",) + HOST, put(SHOP), put(HOST, name="no")),)
        self.assertEqual(host_of(site, ("m",) + HOST), ("a",) + HOST)
        self.assertEqual(host_of(site, ("m", "n") + HOST), ("a",) + HOST)
        self.assertEqual(host_of(site, ("m",) + SHOP), ("a",) + SHOP)
        self.assertEqual(host_of(site, ("m", "n") + SHOP), ("a",) + SHOP)

    def test_within_a_longer_one_that_is_alone_and_a_shorter_one_that_is_not(self):
        site = (page_at(HOST, put(), put(SHOP)),)
        self.assertEqual(host_of(site, ("m",) + HOST), ("a",) + SHOP)

    def test_within_one_that_is_alone_only(self):
        site = (page_at(SHOP, put()),)
        for host in (HOST, ("m",) + HOST, ("a",) + SHOP):
            self.assertEqual(host_of(site, host), ("a", "a"))

    def test_within_none(self):
        site = (page_at(HOST, put(SHOP)),)
        for host in (FAR, ("a", "a"), ("b", "a"), ("m", "n", "a"), ("shop", "net"), ("hop", "org"), FIVE):
            self.assertEqual(host_of(site, host), ("a", "a"))
        # What has the LABELs of a D ahead is not WITHIN it.
        self.assertEqual(host_of(site, SHOP + ("net",)), ("a", "a"))

    def test_one_around_a_domain_is_within_none(self):
        site = (page_at(("v",) + HOST, put(HOST)),)
        self.assertEqual(host_of(site, SHOP), ("a", "a"))

    def test_the_least_label_that_is_free(self):
        pages = [page_at((sign,) + SHOP, put(), put(SHOP)) for sign in "abcde"]
        for many in range(1, 6):
            self.assertEqual(host_of(tuple(pages[:many]), ("m",) + SHOP), ("abcdef"[many],) + SHOP)
        self.assertEqual(host_of(tuple(pages[1:]), ("m",) + SHOP), ("a",) + SHOP)
        self.assertEqual(host_of((pages[0], pages[2], pages[3]), ("m",) + SHOP), ("b",) + SHOP)
        self.assertEqual(host_of(tuple(pages[::-1]), ("b", "c") + SHOP), ("f",) + SHOP)

    def test_the_least_label_that_is_free_far_away(self):
        pages = [page_at((sign, "a"), put()) for sign in "abcde"]
        for many in range(1, 6):
            self.assertEqual(host_of(tuple(pages[:many]), FAR), ("abcdef"[many], "a"))
        self.assertEqual(host_of(tuple(pages[1:]), FAR), ("a", "a"))
        wide = (page_at(("b", "a", "a"), put(("a", "a"))),)
        self.assertEqual(host_of(wide, FAR), ("b", "a"))
        self.assertEqual(host_of(wide, ("m", "a", "a")), ("a", "a", "a"))
        self.assertEqual(host_of(wide, ("m", "b", "a")), ("b", "a"))

    def test_labels_that_are_no_single_letters_leave_them_free(self):
        site = (page_at(("aa",) + SHOP, put(), put(SHOP)), page_at(("0",) + SHOP, put()))
        self.assertEqual(host_of(site, ("m",) + SHOP), ("a",) + SHOP)

    def test_five_labels(self):
        site = (page_at(FIVE, put(FIVE), put(FIVE[1:])),)
        self.assertEqual(host_of(site, FIVE), FIVE)
        self.assertEqual(host_of(site, ("m",) + FIVE[1:]), ("b",) + FIVE[1:])
        self.assertEqual(host_of(site, FIVE[2:]), ("a", "a"))


class Paths(unittest.TestCase):
    def test_the_longest_folder(self):
        site = (page_at(HOST, put(folder=("p",)), put(SHOP, folder=("p", "q", "r")), put(folder=("s",), name="no")),)
        for path, wanted in (
            ((), ()), (("p",), ("p",)), (("p", "q"), ("p",)), (("p", "q", "r"), ("p", "q", "r")),
            (("p", "q", "r", "s"), ("p", "q", "r")), (("p", "q", "s"), ("p",)), (("s", "p"), ("s",)),
            (("q",), ()), (("q", "p"), ()), (("pp",), ()), (("x", "p", "q", "r"), ()),
        ):
            self.assertEqual(path_of(site, path), wanted)

    def test_the_empty_folder_and_no_folder(self):
        for site in ((page_at(HOST, put()),), (page_at(HOST),), (page_at(HOST, put(folder=("p", "q"))),)):
            for path in ((), ("p",), ("q", "p", "q")):
                self.assertEqual(path_of(site, path), ())

    def test_four_segments(self):
        path = ("p", "q", "r", "s")
        site = (page_at(HOST, put(folder=path)),)
        self.assertEqual(path_of(site, path), path)
        self.assertEqual(path_of(site, path[:3]), ())

    def test_the_folder_of_a_path(self):
        site = (page_at(HOST, put(folder=None), path=("p", "q")),)
        self.assertEqual(path_of(site, ("p", "q")), ("p",))

    def test_a_folder_of_another_host_counts(self):
        site = (page_at(HOST, put(folder=("p",))),)
        self.assertEqual(kind_of(site, (FAR, ("p", "q"), False)), (("a", "a"), ("p",), False))

    def test_secure_as_it_is(self):
        site = (page_at(HOST, put(folder=("p",))),)
        for secure in (False, True):
            self.assertIs(kind_of(site, (HOST, ("p",), secure))[2], secure)


class AllKinds(unittest.TestCase):
    def universe(self, site):
        """ADDRESSes among which there are some of each KIND, whatever a SITE of these HOSTs has for KEYs."""
        hosts = [host for many in (2, 3) for host in itertools.product("abcxym", repeat=many)]
        hosts += [more + host for host in HOSTS for many in range(3) for more in itertools.product("mxz", repeat=many)]
        paths = sorted({key[2] for key in keys_by_hand(site)} | {(), ("m",), ("p", "m")})
        return [(host, path, secure) for host in hosts if len(host) <= 5 for path in paths for secure in (False, True)]

    def test_a_site_without_keys_has_two(self):
        for site in ((page_at(HOST),), (page_at(HOST, put(FAR)),), (page_at(FIVE), page_at(SHOP))):
            self.assertEqual(kinds(site), ((("a", "a"), (), False), (("a", "a"), (), True)))

    def test_by_hand(self):
        self.assertEqual(
            kinds((page_at(HOST, put(SHOP, folder=("p",)), put(folder=("p",))),)),
            tuple(
                (host, path, secure)
                for host in (("a", "a"), ("a", "shop", "org"), ("shop", "org"), ("www", "shop", "org"))
                for path in ((), ("p",)) for secure in (False, True)
            ),
        )

    def test_none_within_five_labels(self):
        far, wide = ("a", "a"), ("b",) + FIVE[1:]
        for writes, wanted in (
            ((put(FIVE),), [FIVE, far]), ((put(),), [FIVE, far]),
            ((put(FIVE), put(FIVE[1:])), [FIVE, FIVE[1:], far, wide]),
            ((put(FIVE[1:]),), [FIVE[1:], far, ("a",) + FIVE[1:]]),
        ):
            found = kinds((page_at(FIVE, *writes),))
            self.assertEqual(sorted({kind[0] for kind in found}), sorted(wanted))
            self.assertTrue(all(2 <= len(kind[0]) <= 5 for kind in found))

    def test_those_of_all_addresses(self):
        for chance in chances(40):
            site = some_site(chance)
            found = {kind_of(site, address) for address in self.universe(site)}
            self.assertEqual(kinds(site), tuple(sorted(found)))

    def test_as_by_hand(self):
        for chance in chances(60):
            site = some_site(chance)
            for address in some_addresses():
                self.assertEqual(kind_of(site, address), kind_by_hand(site, address))

    def test_a_kind_is_its_own_kind(self):
        for chance in chances(60):
            site = some_site(chance)
            for kind in kinds(site):
                self.assertEqual(kind_of(site, kind), kind)

    def test_each_once_and_ascending(self):
        for chance in chances(60):
            found = kinds(some_site(chance))
            self.assertEqual(list(found), sorted(set(found)))

    def test_the_same_is_sent_to_an_address_and_to_its_kind(self):
        for chance in chances(25):
            site = some_site(chance, 3, 4)
            for row in all_rows(len(site), 3)[::3]:
                jar = behind(site, row)
                for address in some_addresses():
                    self.assertEqual(sent(jar, address), sent(jar, kind_of(site, address)))

    def test_kinds_of_what_is_returned(self):
        site = (page_at(HOST, put(SHOP)),)
        found = kinds(site)
        self.assertIs(found.__class__, tuple)
        for kind in found + (kind_of(site, (FIVE, ("p",), True)),):
            self.assertEqual([part.__class__ for part in kind], [tuple, tuple, bool])

    def test_more_than_six_keys(self):
        site = tuple(page_at((sign,) + SHOP, *[put(name=name) for name in "abcde"]) for sign in "vwxyz")
        self.assertEqual(len(keys_of(site)), 25)
        self.assertEqual(len(kinds(site)), 12)
        self.assertEqual(kind_of(site, (("v",) + SHOP, ("p",), True)), (("v",) + SHOP, (), True))
        self.assertEqual(kind_of(site, (("u",) + SHOP, ("p",), True)), (("a", "a"), (), True))


class Errors(unittest.TestCase):
    SITE = (page_at(HOST, put(SHOP)),)
    ADDRESS = (HOST, ("in",), True)
    WRONG = (None, True, Unlike(), deep(tuple), deep(list), 10 ** 5000, "", [])

    def test_bad_site_of_anything(self):
        for at, thing in enumerate(odd_things() + integers() + [None, True, False, ()]):
            with self.subTest(at=at):
                refused(self, BadSite, kinds, thing)
                refused(self, BadSite, kind_of, thing, self.ADDRESS)
        site = (self.SITE[0], (self.ADDRESS, (put(), None)))
        self.assertEqual(refused(self, BadSite, kinds, site).place, (1, 1))
        self.assertEqual(refused(self, BadSite, kind_of, site, self.ADDRESS).place, (1, 1))

    def test_bad_site_ahead_of_bad_address(self):
        for wrong in self.WRONG:
            refused(self, BadSite, kind_of, wrong, wrong)

    def test_bad_address_of_anything(self):
        for at, thing in enumerate(odd_things() + integers() + [None, True, False, (), HOST]):
            with self.subTest(at=at):
                self.assertTrue(refused(self, BadAddress, kind_of, self.SITE, thing).given is thing)
                if not isinstance(thing, (tuple, bool)):
                    for part in range(3):
                        refused(self, BadAddress, kind_of, self.SITE, replaced(self.ADDRESS, part, thing))

    def test_addresses_beyond_the_bounds(self):
        for address in ((("org",), (), True), (("a",) * 6, (), True), (HOST, ("a",) * 5, True), (HOST, (), 1)):
            refused(self, BadAddress, kind_of, self.SITE, address)


class EveryCall(unittest.TestCase):
    def test_equal_calls_return_equal_results(self):
        for chance in chances(20):
            site, address = some_site(chance), some_address(chance)
            twins = copy.deepcopy((site, address))
            for _ in range(2):
                self.assertEqual(kinds(site), kinds(twins[0]))
                self.assertEqual(kind_of(site, address), kind_of(*twins))
            self.assertEqual((site, address), twins)

    def test_nothing_at_module_level_can_be_changed(self):
        for name, thing in vars(kinds_module).items():
            if not name.startswith("__"):
                self.assertNotIsInstance(thing, (list, dict, set), name)
