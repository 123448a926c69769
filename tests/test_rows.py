"""rows.py: [9], and what [1] says of every module."""

import copy
import itertools
import unittest

from jarvisits import rows
from jarvisits.errors import BadJar, BadSite, TooMany
from jarvisits.jars import behind, need_jar, visited
from jarvisits.rows import jars, row_to
from jarvisits.sites import keys_of
from models import AgedJar, chances, crowded_site, jar_by_hand, some_site
from things import Unlike, deep, integers, odd_things, refused

HOST = ("www", "shop", "org")
SHOP = ("shop", "org")
ADDRESS = (HOST, ("in",), True)
UNGUARDED = (HOST, ("in",), False)


def page_of(*writes, address=ADDRESS):
    return (address, writes)


def put(value, domain=None, name="id", folder=(), guarded=False):
    return (name, value, domain, folder, guarded)


def kept(value, domain=HOST, alone=False, name="id", folder=(), guarded=False):
    return ((name, domain, folder, alone), value, guarded)


def least_rows(site, most):
    """A dict from the JARs behind all ROWs of at most so many VISITs to how many they take, worked out one by one."""
    found = {}
    for many in range(most + 1):
        for row in itertools.product(range(len(site)), repeat=many):
            found.setdefault(jar_by_hand(site, row).jar(), many)
    return found


def many_keys(many):
    """A SITE of one PAGE and as many more as are needed for so many unlike KEYs."""
    writes = [put("a", name="abcdefghij"[number]) for number in range(many)]
    return tuple(page_of(*writes[at:at + 5]) for at in range(0, max(many, 1), 5))


class SomeJars(unittest.TestCase):
    def lengths(self, site):
        return {jar: len(row) for jar, row in jars(site).items()}

    def test_a_site_that_keeps_nothing(self):
        for site in (
            (page_of(),), (page_of(), page_of()), (page_of(put("a", ("else", "org"))),), (page_of(put(None)),),
            (page_of(put("a", guarded=True), address=UNGUARDED),), (page_of(put("a"), put(None)),),
        ):
            self.assertEqual(jars(site), {(): ()})

    def test_one_page(self):
        self.assertEqual(jars((page_of(put("a")),)), {(): (), (kept("a", alone=True),): (0,)})

    def test_a_value_that_two_pages_leave(self):
        site = (page_of(put(None)), page_of(put("a")), page_of(put("b"), put("a")), page_of(put("b")))
        found = jars(site)
        self.assertEqual(len(found), 3)
        self.assertEqual(found[()], ())
        self.assertIn(found[(kept("a", alone=True),)], ((1,), (2,)))
        self.assertEqual(found[(kept("b", alone=True),)], (3,))

    def test_orders_of_age_that_differ_are_two(self):
        one, other = kept("a", alone=True), kept("b", SHOP)
        self.assertEqual(
            jars((page_of(put("a")), page_of(put("b", SHOP)))),
            {(): (), (one,): (0,), (other,): (1,), (one, other): (0, 1), (other, one): (1, 0)},
        )

    def test_orders_of_age_between_folders_or_names_are_none(self):
        for further in ({"folder": ("x",)}, {"name": "no"}):
            found = jars((page_of(put("a")), page_of(put("b", **further))))
            self.assertEqual(sorted(map(len, found)), [0, 1, 1, 2])

    def test_a_row_longer_than_the_pages(self):
        site = (page_of(put("1", SHOP)), page_of(put("3"), put("2", SHOP)))
        one, other = kept("1", SHOP), kept("3", alone=True)
        over = kept("2", SHOP)
        self.assertEqual(
            jars(site),
            {(): (), (one,): (0,), (other, over): (1,), (over, other): (0, 1), (other, one): (1, 0),
             (one, other): (0, 1, 0)},
        )

    def test_guarded_and_not_are_two(self):
        site = (page_of(put("a")), page_of(put("a", guarded=True)))
        self.assertEqual(
            jars(site), {(): (), (kept("a", alone=True),): (0,), (kept("a", alone=True, guarded=True),): (1,)},
        )

    def test_taking_out(self):
        site = (page_of(put("a")), page_of(put(None), put("b", HOST)), page_of(put(None, HOST)))
        one, other = kept("a", alone=True), kept("b")
        self.assertEqual(jars(site), {(): (), (one,): (0,), (other,): (1,), (other, one): (1, 0)})

    def test_kinds_of_what_is_returned(self):
        found = jars((page_of(put("a")), page_of(put("b", SHOP))))
        self.assertIs(found.__class__, dict)
        for jar, row in found.items():
            self.assertTrue(need_jar(jar) is jar)
            self.assertIs(row.__class__, tuple)
            self.assertTrue(all(page.__class__ is int for page in row))


class AllJars(unittest.TestCase):
    def small_sites(self):
        for chance in chances(60):
            yield some_site(chance, 3, 3)
        for chance in chances(30):
            yield crowded_site(chance, 3, 3, 4)

    def large_sites(self):
        for chance in chances(12):
            yield crowded_site(chance, 5, 5, 6)
        for chance in chances(200):
            site = some_site(chance, 5, 2)
            if len(keys_of(site)) <= 6:
                yield site

    def test_as_all_rows_up_to_some_length(self):
        most = 5
        for site in self.small_sites():
            if len(keys_of(site)) <= 6:
                found = jars(site)
                lengths = {jar: len(row) for jar, row in found.items() if len(row) <= most}
                self.assertEqual(lengths, least_rows(site, most))

    def test_each_row_leads_to_its_jar(self):
        for site in self.large_sites():
            for jar, row in jars(site).items():
                self.assertEqual(behind(site, row), jar)

    def test_a_visit_more_leads_to_one_of_them_that_is_at_most_one_further(self):
        for site in self.large_sites():
            found = jars(site)
            self.assertEqual(found[()], ())
            for jar, row in found.items():
                for page in range(len(site)):
                    self.assertLessEqual(len(found[visited(jar, site, page)]), len(row) + 1)

    def test_no_row_longer_than_the_pages_and_the_kepts(self):
        for site in self.large_sites():
            for jar, row in jars(site).items():
                self.assertLessEqual(len(row), len(site) + len(jar))

    def test_much_at_once(self):
        # Not many SITEs have more JARs; how many these are was worked out apart from the program.
        shape = (
            ((1, 3), (5, 4), (1, 2), (0, 0), (2, 1)), ((4, 10), (3, 14), (4, 10), (1, 11), (1, 12)),
            ((4, None), (4, 23), (5, 24), (4, 24), (5, 20)), ((4, 31), (2, 33), (4, 32), (2, 30), (4, 34)),
            ((3, None), (3, 40), (0, 42), (3, 41), (3, 40)),
        )
        host = ("a", "b", "c", "d", "e")
        kinds = ((None, None), (host, ("p",)), (host[1:], ("p",)), (host[2:], ("p",)), (host[3:], ("p",)), (None, ()))
        site = tuple(
            ((host, ("p", "q"), False), tuple(
                ("id", None if value is None else str(value), *kinds[kind], False) for kind, value in writes
            ))
            for writes in shape
        )
        self.assertEqual(len(keys_of(site)), 6)
        found = jars(site)
        self.assertEqual(len(found), 1886)
        for jar in list(found)[::97]:
            self.assertEqual(len(row_to(site, jar)), len(found[jar]))


class RowTo(unittest.TestCase):
    SITE = (page_of(put("1", SHOP)), page_of(put("3"), put("2", SHOP)))
    ONE, OTHER, OVER = kept("1", SHOP), kept("3", alone=True), kept("2", SHOP)

    def test_the_first_jar(self):
        self.assertEqual(row_to(self.SITE, ()), ())
        self.assertEqual(row_to((page_of(),), ()), ())

    def test_by_hand(self):
        self.assertEqual(row_to(self.SITE, (self.ONE,)), (0,))
        self.assertEqual(row_to(self.SITE, (self.OTHER, self.OVER)), (1,))
        self.assertEqual(row_to(self.SITE, (self.OVER, self.OTHER)), (0, 1))
        self.assertEqual(row_to(self.SITE, (self.ONE, self.OTHER)), (0, 1, 0))

    def test_none(self):
        for jar in (
            (self.OVER,), (self.OTHER,), (kept("4", SHOP),), (kept("1", SHOP, guarded=True),),
            (kept("1", SHOP, name="no"),), (kept("1", HOST),), (kept("1", SHOP, alone=True),),
            (kept("1", SHOP, folder=("x",)),), (self.ONE, self.OTHER, kept("1", name="no")),
            (kept("1", ("far", "net")), self.ONE), (kept("x", ("a",) * 5, name="zzz", folder=("a",) * 4),),
        ):
            self.assertIsNone(row_to(self.SITE, jar))
        self.assertIsNone(row_to((page_of(),), (self.ONE,)))

    def test_an_order_that_never_comes(self):
        site = (page_of(put("a"), put("b", SHOP)),)
        self.assertEqual(row_to(site, (kept("a", alone=True), kept("b", SHOP))), (0,))
        self.assertIsNone(row_to(site, (kept("b", SHOP), kept("a", alone=True))))

    def test_as_short_as_in_jars(self):
        for chance in chances(25):
            site = crowded_site(chance, 3, 3, 4)
            found = jars(site)
            for jar, row in found.items():
                told = row_to(site, jar)
                self.assertIs(told.__class__, tuple)
                self.assertEqual(len(told), len(row))
                self.assertEqual(jar_by_hand(site, told).jar(), jar)

    def test_jars_that_are_no_row_s(self):
        for chance in chances(40):
            site = some_site(chance, 3, 3)
            if len(keys_of(site)) <= 6:
                found = jars(site)
                for jar in list(found):
                    for part in range(len(jar)):
                        fewer = jar[:part] + jar[part + 1:]
                        told = row_to(site, fewer)
                        self.assertEqual(told is None, fewer not in found)


class TooManyKeys(unittest.TestCase):
    def refused(self, site):
        self.assertEqual(refused(self, TooMany, jars, site).most, 6)
        self.assertEqual(refused(self, TooMany, row_to, site, ()).most, 6)
        self.assertEqual(refused(self, TooMany, row_to, site, (kept("a"),)).most, 6)

    def test_up_to_six(self):
        for many in range(7):
            site = many_keys(many)
            self.assertEqual(len(keys_of(site)), many)
            self.assertEqual(row_to(site, ()), ())
            self.assertLessEqual(len(jars(site)), 4)

    def test_seven_and_more(self):
        for many in (7, 8, 9, 10):
            self.refused(many_keys(many))

    def test_equal_ones_count_once(self):
        six = many_keys(6)
        self.assertEqual(len(jars(six * 2)), len(jars(six)))
        self.refused(many_keys(7) * 2)

    def test_those_that_are_only_taken_out_count(self):
        self.refused(many_keys(6) + (page_of(put(None, name="z")),))
        self.refused(many_keys(6) + (page_of(put("1", HOST, name="a")),))

    def test_writes_that_are_not_taken_do_not_count(self):
        more = page_of(put("1", ("else", "org"), name="z"), put("1", name="z", guarded=True), address=UNGUARDED)
        self.assertEqual(len(jars(many_keys(6) + (more,))), 4)


class OrderOfErrors(unittest.TestCase):
    WRONG = (None, True, Unlike(), deep(tuple), deep(list), 10 ** 5000, "", [])

    def test_bad_site_first(self):
        for wrong in self.WRONG:
            refused(self, BadSite, jars, wrong)
            refused(self, BadSite, row_to, wrong, wrong)
            refused(self, BadSite, row_to, wrong, ())
            refused(self, BadSite, row_to, many_keys(7) + (None,), wrong)

    def test_bad_jar_then(self):
        for wrong in self.WRONG:
            refused(self, BadJar, row_to, many_keys(6), wrong)
            refused(self, BadJar, row_to, many_keys(7), wrong)

    def test_bad_site_of_anything(self):
        for at, thing in enumerate(odd_things() + integers() + [None, True, False, ()]):
            with self.subTest(at=at):
                refused(self, BadSite, jars, thing)
                refused(self, BadSite, row_to, thing, ())

    def test_bad_jar_of_anything(self):
        for at, thing in enumerate(odd_things() + integers() + [None, True, False]):
            with self.subTest(at=at):
                error = refused(self, BadJar, row_to, many_keys(2), thing)
                self.assertEqual(error.place, 0 if isinstance(thing, tuple) else None)

    def test_places(self):
        site = (page_of(put("a")), (ADDRESS, (put("a"), None)))
        self.assertEqual(refused(self, BadSite, jars, site).place, (1, 1))
        self.assertEqual(refused(self, BadSite, row_to, site, ()).place, (1, 1))
        self.assertEqual(refused(self, BadJar, row_to, site[:1], (kept("a"), kept("b"))).place, 1)


class EveryCall(unittest.TestCase):
    SITE = RowTo.SITE

    def test_what_a_caller_does_to_it_shows_in_no_later_call(self):
        first = jars(self.SITE)
        wanted = dict(first)
        first.clear()
        first[()] = (7,)
        self.assertEqual(jars(self.SITE), wanted)
        self.assertEqual(row_to(self.SITE, ()), ())
        self.assertIsNot(jars(self.SITE), jars(self.SITE))

    def test_equal_calls_return_equal_results(self):
        for chance in chances(10):
            site = crowded_site(chance, 3, 3, 4)
            twin = copy.deepcopy(site)
            found = jars(site)
            self.assertEqual(list(found.items()), list(jars(twin).items()))
            for jar in found:
                self.assertEqual(row_to(site, jar), row_to(twin, copy.deepcopy(jar)))
            self.assertEqual(site, twin)

    def test_nothing_at_module_level_can_be_changed(self):
        for name, thing in vars(rows).items():
            if not name.startswith("__"):
                self.assertNotIsInstance(thing, (list, dict, set), name)

    def test_the_first_aged_jar_is_empty(self):
        # The JARs that these tests are worked out with begin as the document says.
        self.assertEqual(AgedJar().jar(), ())
