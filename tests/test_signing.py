"""signing.py: [12], [13], and what [1] says of every module."""

import copy
import itertools
import unittest

from jarvisits import signing
from jarvisits.errors import BadName, BadPage, BadSite, TooMany
from jarvisits.jars import behind, sent
from jarvisits.signing import beyond, doubled, lacking, mended, pairs_kept, signs_out, stays
from jarvisits.sites import keys_of, need_site
from models import all_rows, chances, crowded_site, effects_by_hand, few_keys, jar_by_hand, some_addresses, some_site
from pages import ADDRESS, FAR, HOST, OPEN, OWN, SHOP, WIDE, many_keys, page_of, put
from things import Unlike, deep, integers, odd_things, refused

SAME = ("id", HOST, (), False)


def small_sites():
    sites = [some_site(chance, 3, 3) for chance in chances(50)]
    sites += [crowded_site(chance, 3, 3, 4) for chance in chances(10)]
    return [site for site in sites if few_keys(site)]


def rows_of(site, most=3):
    """A list of all ROWs of at most so many VISITs with the AgedJars behind them, shorter ones first."""
    return [(row, jar_by_hand(site, row)) for row in all_rows(len(site), most)]


def times(pairs, name):
    return [told for told, _ in pairs].count(name)


class Doubled(unittest.TestCase):
    def row(self, *pages, name="id"):
        """How long a ROW by which a NAME is DOUBLED must be, or None."""
        found = doubled(pages, name)
        if found is None:
            return None
        row, address = found
        self.assertGreater(times(sent(behind(pages, row), address), name), 1)
        return len(row)

    def test_nested_domains(self):
        self.assertEqual(self.row(page_of(put("a", HOST), put("b", SHOP))), 1)
        self.assertEqual(self.row(page_of(put("a", HOST)), page_of(put("b", SHOP))), 2)
        self.assertEqual(self.row(page_of(put("a")), page_of(put("b", SHOP))), 2)

    def test_equal_values_are_two_pairs(self):
        self.assertEqual(self.row(page_of(put("a", HOST), put("a", SHOP))), 1)

    def test_one_host_with_and_without_alone(self):
        self.assertEqual(self.row(page_of(put("a"), put("b", HOST))), 1)
        self.assertEqual(self.row(page_of(put("a")), page_of(put("b", HOST))), 2)
        self.assertEqual(doubled((page_of(put("a"), put("b", HOST)),), "id")[1][0], HOST)

    def test_nested_folders(self):
        self.assertEqual(self.row(page_of(put("a", folder=("p",)), put("b"))), 1)
        self.assertEqual(self.row(page_of(put("a", folder=("p", "q"))), page_of(put("b", SHOP, folder=("p",)))), 2)
        path = doubled((page_of(put("a", folder=("p", "q")), put("b", folder=("p",))),), "id")[1][1]
        self.assertEqual(path[:2], ("p", "q"))

    def test_ones_that_never_meet(self):
        for one, other in (
            (put("a", folder=("p",)), put("b", folder=("q",))),
            (put("a", folder=("p", "q")), put("b", folder=("p", "r"))),
            (put("a", folder=("p",)), put("b", SHOP, folder=("q",))),
            (put("a"), put("b", name="no")), (put("a"), put("b")), (put("a"), put(None, SHOP)),
            (put("a"), put("b", FAR)),
        ):
            self.assertIsNone(self.row(page_of(one, other)))
            self.assertIsNone(self.row(page_of(one), page_of(other)))

    def test_hosts_that_never_meet(self):
        for one, other, at in (
            (put("a"), put("b"), SHOP), (put("a"), put("b"), FAR), (put("a", HOST), put("b"), SHOP),
            (put("a", HOST), put("b", ("m",) + SHOP), ("m",) + SHOP), (put("a"), put("b"), ("m",) + HOST),
        ):
            self.assertIsNone(self.row(page_of(one), page_of(other, address=(at, (), True))))

    def test_alone_with_one_around_it(self):
        self.assertEqual(self.row(page_of(put("a")), page_of(put("b", SHOP), address=(SHOP, (), True))), 2)
        self.assertEqual(self.row(page_of(put("a")), page_of(put("b", HOST), address=(("m",) + HOST, (), True))), 2)

    def test_guarded_ones_are_sent_to_secure_addresses_only(self):
        site = (page_of(put("a", guarded=True)), page_of(put("b", SHOP)))
        self.assertEqual(self.row(*site), 2)
        self.assertIs(doubled(site, "id")[1][2], True)
        self.assertEqual(self.row(page_of(put("a", guarded=True), put("b", SHOP, guarded=True))), 1)

    def test_pages_that_take_each_other_s_out(self):
        one, other = page_of(put("a"), put(None, SHOP)), page_of(put(None), put("b", SHOP))
        self.assertIsNone(self.row(one, other))
        self.assertEqual(self.row(one, page_of(put("b", SHOP))), 2)
        self.assertEqual(doubled((one, page_of(put("b", SHOP))), "id")[0], (0, 1))
        self.assertEqual(doubled((page_of(put("b", SHOP)), one), "id")[0], (1, 0))

    def test_what_a_page_takes_out_itself(self):
        self.assertIsNone(self.row(page_of(put("a"), put("b", SHOP), put(None, SHOP))))
        self.assertEqual(self.row(page_of(put("a"), put(None, SHOP), put("b", SHOP))), 1)

    def test_one_visit_ahead_of_two(self):
        site = (page_of(put("a")), page_of(put("b", SHOP)), page_of(put("c"), put("d", SHOP)))
        self.assertEqual(doubled(site, "id")[0], (2,))

    def test_names_apart(self):
        site = (page_of(put("a"), put("b", SHOP), put("c", name="no")), page_of(put("d", SHOP, name="no")))
        self.assertEqual(self.row(*site), 1)
        self.assertEqual(self.row(*site, name="no"), 2)
        for name in ("i", "idd", "n", "x"):
            self.assertIsNone(self.row(*site, name=name))

    def test_as_all_rows(self):
        for site in small_sites():
            rows = rows_of(site)
            for name in "abc" if site[0][1] and site[0][1][0][0] != "id" else ("id",):
                wanted = next((len(row) for row, jar in rows
                               if any(times(jar.sent(address), name) > 1 for address in some_addresses())), None)
                self.assertEqual(self.row(*site, name=name), wanted)


class PairsKept(unittest.TestCase):
    def test_by_hand(self):
        self.assertEqual(pairs_kept((page_of(put("a"), put("b", SHOP)),), "id"), ((WIDE, OWN),))
        self.assertEqual(pairs_kept((page_of(put("a")), page_of(put("b", SHOP))), "id"), ((WIDE, OWN),))
        self.assertEqual(
            pairs_kept((page_of(put("a"), put("b", SHOP)), page_of(put("c", HOST))), "id"),
            ((WIDE, SAME), (WIDE, OWN), (SAME, OWN)),
        )

    def test_none(self):
        for site in ((page_of(),), (page_of(put("a")),), (page_of(put("a"), put(None, SHOP)),),
                     (page_of(put("a"), put("b", SHOP, name="no")),), (page_of(put("a")), page_of(put("b")))):
            self.assertEqual(pairs_kept(site, "id"), ())

    def test_keys_that_never_meet_are_kept_together_too(self):
        site = (page_of(put("a", folder=("p",))), page_of(put("b", folder=("q",))))
        self.assertEqual(pairs_kept(site, "id"), ((OWN[:2] + (("p",), True), OWN[:2] + (("q",), True)),))
        self.assertIsNone(doubled(site, "id"))

    def test_pages_that_take_each_other_s_out(self):
        one, other = page_of(put("a"), put(None, SHOP)), page_of(put(None), put("b", SHOP))
        self.assertEqual(pairs_kept((one, other), "id"), ())
        self.assertEqual(pairs_kept((one, page_of(put("b", SHOP))), "id"), ((WIDE, OWN),))
        self.assertEqual(pairs_kept((page_of(put("a")), other), "id"), ((WIDE, OWN),))
        self.assertEqual(pairs_kept((one, other, page_of(put("c", HOST))), "id"), ((WIDE, SAME), (SAME, OWN)))

    def test_as_all_rows(self):
        for site in small_sites():
            rows = rows_of(site, 4 if len(site) < 3 else 3)
            for name in ("a", "b", "id"):
                wanted = set()
                for _, jar in rows:
                    keys = sorted(key for key in jar.kept if key[0] == name)
                    wanted.update(itertools.combinations(keys, 2))
                found = pairs_kept(site, name)
                self.assertEqual(found, tuple(sorted(wanted)))

    def test_kinds_of_what_is_returned(self):
        found = pairs_kept((page_of(put("a"), put("b", SHOP)),), "id")
        self.assertEqual([found.__class__, found[0].__class__, len(found[0])], [tuple, tuple, 2])


class SigningOut(unittest.TestCase):
    OUT = page_of(put(None), put(None, SHOP))

    def test_by_hand(self):
        site = (page_of(put("a"), put("b", SHOP)), page_of(put(None)), self.OUT, page_of(put("c")))
        self.assertEqual([signs_out(site, page, "id") for page in range(4)], [False, False, True, False])
        self.assertEqual(lacking(site, 0, "id"), (WIDE, OWN))
        self.assertEqual(lacking(site, 1, "id"), (WIDE,))
        self.assertEqual(lacking(site, 2, "id"), ())
        self.assertEqual(lacking(site, 3, "id"), (WIDE, OWN))
        self.assertEqual(stays(site, 0, "id")[0], (0,))
        self.assertEqual(stays(site, 1, "id"), ((0, 1), (SHOP, (), True)))
        self.assertIsNone(stays(site, 2, "id"))
        self.assertEqual(stays(site, 3, "id"), ((3,), (HOST, (), True)))

    def test_a_name_that_no_page_keeps(self):
        site = (page_of(put(None), put("a", name="no")), page_of(put("b", FAR)))
        for page in range(2):
            for name in ("id", "x"):
                self.assertIs(signs_out(site, page, name), True)
                self.assertEqual((lacking(site, page, name), beyond(site, page, name)), ((), ()))
                self.assertIsNone(stays(site, page, name))
                self.assertTrue(mended(site, page, name) is site)

    def test_keys_that_are_only_taken_out_are_not_lacked(self):
        site = (page_of(put("a")), page_of(put(None, SHOP)))
        self.assertEqual(lacking(site, 0, "id"), (OWN,))
        self.assertEqual(lacking(site, 1, "id"), (OWN,))

    def test_a_value_that_the_page_itself_takes_out_again_is_not_lacked(self):
        site = (page_of(put("a"), put(None)),)
        self.assertTrue(signs_out(site, 0, "id"))
        self.assertTrue(signs_out(site + (page_of(put("b")),), 0, "id"))
        self.assertFalse(signs_out((page_of(put(None), put("a")),), 0, "id"))

    def test_a_folder_more_or_another_domain_takes_nothing_out(self):
        others = (put(None, folder=("in",)), put(None, HOST), put(None, SHOP), put(None, name="no"), put(None, FAR))
        for write in others:
            site = (page_of(put("a")), page_of(write))
            self.assertEqual(lacking(site, 1, "id"), (OWN,))
            self.assertEqual(stays(site, 1, "id"), ((0, 1), (HOST, (), True)))

    def test_a_guarded_write_of_an_open_page_takes_nothing_out(self):
        site = (page_of(put("a")), page_of(put(None, guarded=True), address=OPEN))
        self.assertEqual(lacking(site, 1, "id"), (OWN,))
        self.assertTrue(signs_out((site[0], page_of(put(None, guarded=True))), 1, "id"))

    def test_guarded_ones_stay(self):
        site = (page_of(put("a", guarded=True)), page_of(address=OPEN))
        row, address = stays(site, 1, "id")
        self.assertEqual(row, (0, 1))
        self.assertIs(address[2], True)

    def test_as_all_rows(self):
        for site in small_sites():
            rows = rows_of(site)
            for page in range(len(site)):
                for name in ("a", "b", "id"):
                    ends = [(row, jar) for row, jar in rows if row[-1:] == (page,)]
                    wanted = next((len(row) for row, jar in ends if any(key[0] == name for key in jar.kept)), None)
                    self.assertIs(signs_out(site, page, name), wanted is None)
                    found = stays(site, page, name)
                    if wanted is None:
                        self.assertIsNone(found)
                    else:
                        row, address = found
                        self.assertEqual((len(row), row[-1]), (wanted, page))
                        self.assertGreater(times(jar_by_hand(site, row).sent(address), name), 0)
                        self.assertGreater(times(sent(behind(site, row), address), name), 0)

    def test_out_at_all_addresses(self):
        for site in small_sites()[::4]:
            for page in range(len(site)):
                for name in ("a", "id"):
                    if signs_out(site, page, name):
                        for row in all_rows(len(site), 2):
                            jar = jar_by_hand(site, row + (page,))
                            self.assertFalse(any(times(jar.sent(address), name) for address in some_addresses()))


class Lacking(unittest.TestCase):
    def by_hand(self, site, page, name):
        found = [effects_by_hand(one) for one in site]
        keys = {key for one in found for key, effect in one.items() if effect is not None and key[0] == name}
        return tuple(sorted(key for key in keys if found[page].get(key, True) is not None))

    def test_as_by_hand(self):
        for chance in chances(80):
            site = some_site(chance, 5, 4)
            if few_keys(site):
                for page in range(len(site)):
                    for name in ("a", "b"):
                        found = lacking(site, page, name)
                        self.assertEqual(found, self.by_hand(site, page, name))
                        self.assertIs(signs_out(site, page, name), found == ())

    def test_beyond_by_hand(self):
        site = (page_of(put("a"), put("b", SHOP), put("c", HOST)),)
        for at, wanted in (
            (HOST, ()), (("m",) + HOST, (OWN,)), (SHOP, (SAME, OWN)), (("m",) + SHOP, (SAME, OWN)),
            (FAR, (WIDE, SAME, OWN)), (("hop", "org"), (WIDE, SAME, OWN)),
        ):
            more = site + (page_of(address=(at, (), False)),)
            self.assertEqual(lacking(more, 1, "id"), (WIDE, SAME, OWN))
            self.assertEqual(beyond(more, 1, "id"), wanted)

    def test_beyond_are_those_that_no_write_can_have(self):
        for chance in chances(80):
            site = some_site(chance, 4, 4)
            if few_keys(site):
                for page, (address, _) in enumerate(site):
                    lacked, far = lacking(site, page, "a"), beyond(site, page, "a")
                    for key in lacked:
                        domains = [None] + [address[0][at:] for at in range(len(address[0]) - 1)]
                        writes = [("a", "v", domain, key[2], False) for domain in domains]
                        can = any(key in keys_of(((address, (write,)),)) for write in writes)
                        self.assertIs(key in far, not can)
                    self.assertEqual(far, tuple(key for key in lacked if key in far))

    def test_what_is_beyond_is_lacked(self):
        site = (page_of(put("a"), put("b", SHOP)), page_of(put(None, SHOP), address=(SHOP, (), True)))
        self.assertEqual(lacking(site, 1, "id"), (OWN,))
        self.assertEqual(beyond(site, 1, "id"), (OWN,))
        self.assertEqual(beyond(site, 0, "id"), ())


class Mended(unittest.TestCase):
    def test_by_hand(self):
        site = (
            page_of(put("a"), put("b", SHOP), put("c", name="no")),
            page_of(put("d", HOST, folder=("p",), guarded=True)),
        )
        more = (
            ("id", None, SHOP, (), False), ("id", None, None, (), False), ("id", None, HOST, ("p",), False),
        )
        self.assertEqual(mended(site, 1, "id"), (site[0], (ADDRESS, site[1][1] + more)))
        self.assertIsNone(mended(site, 0, "id"))
        self.assertEqual(mended(site, 0, "no"), ((ADDRESS, site[0][1] + (("no", None, None, (), False),)), site[1]))

    def test_a_page_in_the_midst(self):
        site = (page_of(put("a")), page_of(put("b")), page_of(put("c")))
        wanted = (site[0], page_of(put("b"), put(None)), site[2])
        self.assertEqual(mended(site, 1, "id"), wanted)

    def test_the_folder_is_told_even_if_it_is_that_of_the_path(self):
        site = (((HOST, ("in", "now"), True), (put("a", folder=None),)),)
        self.assertEqual(mended(site, 0, "id")[0][1][1:], (("id", None, None, ("in",), False),))

    def test_up_to_five_writes(self):
        for many in range(1, 6):
            site = (page_of(put("a")), page_of(*[put("x", name="no")] * (many - 1)))
            self.assertEqual(len(mended(site, 1, "id")[1][1]), many)
        self.assertIsNone(mended((page_of(put("a")), page_of(*[put("x", name="no")] * 5)), 1, "id"))
        for many in (3, 4):
            site = (page_of(put("a"), put("b", SHOP)), page_of(*[put("x", FAR)] * many))
            self.assertEqual(mended(site, 1, "id") is None, many == 4)

    def test_a_full_page_that_lacks_nothing(self):
        site = (page_of(put("a")), page_of(*[put("x", name="no")] * 4, put(None)))
        self.assertTrue(mended(site, 1, "id") is site)

    def test_none_if_a_key_is_beyond(self):
        site = (page_of(put("a"), put("b", SHOP)), page_of(address=(SHOP, (), True)))
        self.assertIsNone(mended(site, 1, "id"))
        self.assertEqual(mended((page_of(put("b", SHOP)), site[1]), 1, "id")[1][1], (put(None, SHOP),))

    def test_the_mended_page_signs_out(self):
        seen = set()
        for chance in chances(150):
            site = some_site(chance, 4, 3)
            if few_keys(site):
                for page in range(len(site)):
                    found = mended(site, page, "a")
                    lacked, far = lacking(site, page, "a"), beyond(site, page, "a")
                    seen.add((found is None, lacked == (), far == ()))
                    if lacked == ():
                        self.assertTrue(found is site)
                    self.assertEqual(found is None, far != () or len(site[page][1]) + len(lacked) > 5)
                    if found is not None:
                        self.assertTrue(need_site(found) is found)
                        self.assertTrue(signs_out(found, page, "a"))
                        self.assertEqual(len(found[page][1]), len(site[page][1]) + len(lacked))
                        self.assertEqual(found[page][1][:len(site[page][1])], site[page][1])
                        self.assertEqual(found[:page] + found[page + 1:], site[:page] + site[page + 1:])
        self.assertEqual(seen, {(True, False, False), (True, False, True), (False, False, True), (False, True, True)})

    def test_no_fewer_writes_do(self):
        for chance in chances(60):
            site = some_site(chance, 3, 3)
            if few_keys(site):
                for page, (address, writes) in enumerate(site):
                    found = mended(site, page, "a")
                    more = [] if found is None else found[page][1][len(writes):]
                    for fewer in itertools.combinations(more, max(len(more) - 1, 0)):
                        if more:
                            less = site[:page] + ((address, writes + fewer),) + site[page + 1:]
                            self.assertFalse(signs_out(less, page, "a"))


class LargeSites(unittest.TestCase):
    def test_all_of_them(self):
        for chance in chances(8):
            site = crowded_site(chance, 5, 5, 6)
            found = doubled(site, "id")
            if found is not None:
                self.assertGreater(times(jar_by_hand(site, found[0]).sent(found[1]), "id"), 1)
            self.assertTrue(all(pair[0] < pair[1] for pair in pairs_kept(site, "id")))
            for page in range(5):
                kept = stays(site, page, "id")
                self.assertIs(signs_out(site, page, "id"), kept is None)
                if kept is not None:
                    self.assertGreater(times(jar_by_hand(site, kept[0]).sent(kept[1]), "id"), 0)
                self.assertEqual(mended(site, page, "id") is None, kept is not None)


class OrderOfErrors(unittest.TestCase):
    WRONG = (None, True, Unlike(), deep(tuple), deep(list), 10 ** 5000, "", [])
    OF_PAGES = (signs_out, stays, lacking, beyond, mended)
    OF_NAMES = (doubled, pairs_kept)

    def test_bad_site_first(self):
        for wrong in self.WRONG:
            for call in self.OF_PAGES:
                refused(self, BadSite, call, wrong, wrong, wrong)
                refused(self, BadSite, call, wrong, 0, "id")
            for call in self.OF_NAMES:
                refused(self, BadSite, call, wrong, wrong)
                refused(self, BadSite, call, wrong, "id")
        for call in self.OF_PAGES:
            self.assertEqual(refused(self, BadSite, call, many_keys(7) + (None,), 9, "").place, (2,))
        for call in self.OF_NAMES:
            self.assertEqual(refused(self, BadSite, call, many_keys(7) + (None,), "").place, (2,))

    def test_bad_site_of_anything(self):
        for at, thing in enumerate(odd_things() + integers() + [None, True, False, ()]):
            with self.subTest(at=at):
                for call in self.OF_PAGES:
                    refused(self, BadSite, call, thing, 0, "id")
                for call in self.OF_NAMES:
                    refused(self, BadSite, call, thing, "id")

    def test_bad_page_then(self):
        for call in self.OF_PAGES:
            for wrong in self.WRONG:
                for site in (many_keys(6), many_keys(7)):
                    self.assertTrue(refused(self, BadPage, call, site, wrong, wrong).given is wrong)
                    self.assertTrue(refused(self, BadPage, call, site, wrong, "id").given is wrong)

    def test_bad_page_of_anything(self):
        for at, thing in enumerate(odd_things() + [None, True, False, -1, -2, 2, 5, 10 ** 5000]):
            with self.subTest(at=at):
                for call in self.OF_PAGES:
                    self.assertTrue(refused(self, BadPage, call, many_keys(6), thing, "id").given is thing)

    def test_bad_name_then(self):
        for wrong in self.WRONG:
            for site in (many_keys(6), many_keys(7)):
                for call in self.OF_PAGES:
                    self.assertTrue(refused(self, BadName, call, site, 1, wrong).given is wrong)
                for call in self.OF_NAMES:
                    self.assertTrue(refused(self, BadName, call, site, wrong).given is wrong)

    def test_bad_name_of_anything(self):
        for at, thing in enumerate(odd_things() + integers() + [None, True, False, (), "i1", "abcdefg", "Id"]):
            with self.subTest(at=at):
                for call in self.OF_PAGES:
                    self.assertTrue(refused(self, BadName, call, many_keys(2), 0, thing).given is thing)
                for call in self.OF_NAMES:
                    self.assertTrue(refused(self, BadName, call, many_keys(2), thing).given is thing)

    def test_too_many_last(self):
        six, seven = many_keys(6), many_keys(7)
        for call in self.OF_PAGES:
            call(six, 1, "a")
            for name in ("a", "x"):
                self.assertEqual(refused(self, TooMany, call, seven, 1, name).most, 6)
        for call in self.OF_NAMES:
            call(six, "a")
            for name in ("a", "x"):
                self.assertEqual(refused(self, TooMany, call, seven, name).most, 6)


class EveryCall(unittest.TestCase):
    def test_equal_calls_return_equal_results(self):
        for site in small_sites()[::5]:
            twin = copy.deepcopy(site)
            for call in (doubled, pairs_kept):
                self.assertEqual(call(site, "a"), call(twin, "a"))
            for call in (signs_out, stays, lacking, beyond, mended):
                self.assertEqual(call(site, 0, "a"), call(twin, 0, "a"))
            self.assertEqual(site, twin)

    def test_nothing_at_module_level_can_be_changed(self):
        for name, thing in vars(signing).items():
            if not name.startswith("__"):
                self.assertNotIsInstance(thing, (list, dict, set), name)
