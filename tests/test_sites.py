"""sites.py: [3], [4], the first sentence of [8], and what [1] says of every module."""

import copy
import unittest

from jarvisits import sites
from jarvisits.errors import BadPage, BadQuestion, BadSite
from jarvisits.sites import MOST_PAGES, MOST_WRITES, effects, key_of, keys_of, need_site
from things import Unlike, deep, integers, odd_things, replaced

HOST = ("www", "shop", "org")
SHOP = ("shop", "org")
ADDRESS = (HOST, ("in",), True)
UNGUARDED = (HOST, ("in",), False)
WRITE = ("id", "a1", SHOP, (), True)
PAGE = (ADDRESS, (WRITE,))
# The PAGE of the example of point [6].
EXAMPLE = (ADDRESS, (("id", "a1", SHOP, None, True), ("id", "b2", None, ("in",), False)))


def site_of(*writes, address=ADDRESS):
    """A SITE of one PAGE with these WRITEs."""
    return ((address, writes),)


class Bounds(unittest.TestCase):
    def test_numbers(self):
        self.assertEqual((MOST_PAGES, MOST_WRITES), (5, 5))
        self.assertEqual([number.__class__ for number in (MOST_PAGES, MOST_WRITES)], [int, int])


class Sites(unittest.TestCase):
    def good(self, thing):
        self.assertTrue(need_site(thing) is thing)

    def bad(self, thing, place):
        for call in (need_site, keys_of):
            with self.assertRaises(BadSite) as caught:
                call(thing)
            self.assertEqual(caught.exception.place, place)
            self.assertIsInstance(caught.exception.place, tuple)

    def test_a_site_itself(self):
        self.good((EXAMPLE,))
        self.good((PAGE, EXAMPLE, PAGE))
        self.good(((ADDRESS, ()),))

    def test_one_to_five_pages(self):
        for many in range(1, 6):
            self.good((PAGE,) * many)
        for many in (0, 6, 7, 1000):
            self.bad((PAGE,) * many, ())

    def test_six_pages_are_refused_ahead_of_a_wrong_one(self):
        self.bad((None,) + (PAGE,) * 5, ())

    def test_no_tuple(self):
        for thing in ([PAGE], {0: PAGE}, {PAGE}, frozenset((PAGE,)), PAGE, (), [], None, "page"):
            if thing is PAGE:
                # A PAGE is a tuple of two, so it is its first item that is at fault.
                self.bad(thing, (0,))
            else:
                self.bad(thing, ())

    def test_anything_for_a_site(self):
        for at, thing in enumerate(odd_things() + integers() + [None, True, False, ()]):
            with self.subTest(at=at):
                few = isinstance(thing, tuple) and 1 <= len(thing) <= 5
                self.bad(thing, (0,) if few else ())

    def test_anything_for_a_page(self):
        for at, thing in enumerate(odd_things() + integers() + [None, True, False, (), WRITE, ADDRESS]):
            with self.subTest(at=at):
                for page in range(3):
                    self.bad(replaced((PAGE, EXAMPLE, PAGE), page, thing), (page,))

    def test_anything_for_an_address(self):
        for at, thing in enumerate(odd_things() + integers() + [None, True, False, (), HOST, PAGE]):
            with self.subTest(at=at):
                self.bad((PAGE, (thing, (WRITE,))), (1,))

    def test_anything_for_the_parts_of_an_address(self):
        for at, thing in enumerate(odd_things() + integers() + [None]):
            with self.subTest(at=at):
                for part in range(3):
                    self.bad((PAGE, (replaced(ADDRESS, part, thing), (WRITE,))), (1,))

    def test_anything_for_the_writes(self):
        for at, thing in enumerate(odd_things() + integers() + [None, True, False, [WRITE], {WRITE: 0}]):
            with self.subTest(at=at):
                few = isinstance(thing, tuple) and len(thing) <= 5
                self.bad((PAGE, PAGE, (ADDRESS, thing)), (2, 0) if few else (2,))

    def test_a_pair(self):
        self.bad(((ADDRESS,),), (0,))
        self.bad(((ADDRESS, (WRITE,), ()),), (0,))
        self.bad(([ADDRESS, (WRITE,)],), (0,))
        self.bad((((WRITE,), ADDRESS),), (0,))

    def test_none_to_five_writes(self):
        for many in range(6):
            self.good((PAGE, (ADDRESS, (WRITE,) * many)))
        for many in (6, 7, 1000):
            self.bad((PAGE, (ADDRESS, (WRITE,) * many)), (1,))

    def test_six_writes_are_refused_ahead_of_a_wrong_one(self):
        self.bad(((ADDRESS, (None,) + (WRITE,) * 5),), (0,))

    def test_the_first_page_at_fault(self):
        wrong_write = (ADDRESS, (WRITE, WRITE, None, None))
        self.bad((PAGE, wrong_write, None), (1, 2))
        self.bad((PAGE, None, wrong_write), (1,))
        self.bad((wrong_write, None, ([], ())), (0, 2))
        self.bad((PAGE, PAGE, PAGE, PAGE, wrong_write), (4, 2))

    def test_the_address_ahead_of_the_writes(self):
        self.bad((((HOST, ("in",), 1), (None,)),), (0,))


class Writes(unittest.TestCase):
    def good(self, write):
        for number in range(5):
            site = (PAGE, (ADDRESS, replaced((WRITE,) * 5, number, write)))
            self.assertTrue(need_site(site) is site)

    def bad(self, write):
        for number in range(5):
            with self.assertRaises(BadSite) as caught:
                need_site((PAGE, (ADDRESS, replaced((WRITE,) * 5, number, write))))
            self.assertEqual(caught.exception.place, (1, number))

    def good_part(self, part, thing):
        self.good(replaced(WRITE, part, thing))

    def bad_part(self, part, thing):
        self.bad(replaced(WRITE, part, thing))

    def test_names(self):
        for name in ("a", "z", "id", "abcdef", "zzzzzz"):
            self.good_part(0, name)
        for name in ("", "abcdefg", "i1", "1", "0", "9a", "Id", "A", "Z", "`", "{", "i-d", "i d", "id\n", " "):
            self.bad_part(0, name)
        for name in (None, b"id", ("i", "d"), ["id"], 1, True):
            self.bad_part(0, name)

    def test_values(self):
        for value in ("a", "z", "0", "9", "a1b2c3", "000000", None):
            self.good_part(1, value)
        for value in ("", "abcdefg", "0123456", "A", "-", ".", "`", "{", "/", ":", "a\n", "a b", " ", "a" * 20_000):
            self.bad_part(1, value)
        for value in (False, True, 0, 1, (), b"a", ("a",)):
            self.bad_part(1, value)

    def test_domains(self):
        for domain in (None, HOST, SHOP, ("a", "b"), ("a",) * 5, ("no", "relation")[:1] + ("x",)):
            self.good_part(2, domain)
        for domain in ((), ("org",), ("a",) * 6, ("abcdefg", "b"), list(SHOP), "shop.org", False, "", ("A", "b")):
            self.bad_part(2, domain)

    def test_folders(self):
        for folder in (None, (), ("in",), ("a",) * 4):
            self.good_part(3, folder)
        for folder in (("a",) * 5, ("",), ("abcdefg",), ["in"], [], "/in", "", False, True, 0):
            self.bad_part(3, folder)

    def test_guarded(self):
        for guarded in (True, False):
            self.good_part(4, guarded)
        for guarded in (0, 1, None, "", "Secure", (), [], 2):
            self.bad_part(4, guarded)

    def test_anything_in_each_part(self):
        for at, thing in enumerate(odd_things() + integers()):
            with self.subTest(at=at):
                for part in range(5):
                    self.bad_part(part, thing)

    def test_anything_for_a_write(self):
        for at, thing in enumerate(odd_things() + integers() + [None, True, False, (), ADDRESS, PAGE]):
            with self.subTest(at=at):
                self.bad(thing)

    def test_five_things_in_a_tuple(self):
        for thing in (WRITE[:4], WRITE + (True,), list(WRITE), WRITE[::-1], WRITE[:1]):
            self.bad(thing)

    def test_writes_that_are_not_taken_are_writes(self):
        self.good(("id", "a1", ("else", "net"), None, True))
        self.assertTrue(need_site(site_of(WRITE, address=UNGUARDED)))


class Keys(unittest.TestCase):
    def key(self, write, address=ADDRESS):
        return key_of((PAGE, (address, (WRITE, write))), 1, 1)

    def test_with_a_domain(self):
        self.assertEqual(self.key(("id", "a", SHOP, ("x",), False)), ("id", SHOP, ("x",), False))
        self.assertEqual(self.key(("id", "a", HOST, ("x",), False)), ("id", HOST, ("x",), False))

    def test_without_a_domain(self):
        self.assertEqual(self.key(("id", "a", None, ("x",), False)), ("id", HOST, ("x",), True))

    def test_alone_is_true_or_false(self):
        self.assertIs(self.key(("id", "a", None, None, False))[3], True)
        self.assertIs(self.key(("id", "a", HOST, None, False))[3], False)

    def test_folders(self):
        write = ("id", "a", SHOP, None, False)
        for path, folder in (
            ((), ()), (("in",), ()), (("in", "now"), ("in",)), (("a", "b", "c", "d"), ("a", "b", "c")),
        ):
            self.assertEqual(self.key(write, (HOST, path, True)), ("id", SHOP, folder, False))

    def test_the_empty_folder_beside_none(self):
        address = (HOST, ("in", "now"), True)
        self.assertEqual(self.key(("id", "a", SHOP, (), False), address), ("id", SHOP, (), False))
        self.assertEqual(self.key(("id", "a", SHOP, None, False), address), ("id", SHOP, ("in",), False))

    def test_a_folder_need_not_fit_the_page(self):
        self.assertEqual(self.key(("id", "a", None, ("far", "off"), False)), ("id", HOST, ("far", "off"), True))

    def test_not_taken_because_of_its_domain(self):
        for domain in (("else", "org"), ("shop", "net"), ("in",) + HOST, ("www", "shop"), ("op", "org"), ("x",) * 5):
            self.assertIsNone(self.key(("id", "a", domain, None, False)))
            self.assertIsNone(self.key(("id", None, domain, None, False)))

    def test_guarded(self):
        for domain in (None, SHOP):
            for value in ("a", None):
                self.assertIsNone(self.key(("id", value, domain, None, True), UNGUARDED))
                self.assertIsNotNone(self.key(("id", value, domain, None, False), UNGUARDED))
                self.assertIsNotNone(self.key(("id", value, domain, None, True), ADDRESS))
                self.assertIsNotNone(self.key(("id", value, domain, None, False), ADDRESS))

    def test_both_are_needed(self):
        self.assertIsNone(self.key(("id", "a", ("else", "org"), None, True), ADDRESS))
        self.assertIsNone(self.key(("id", "a", ("else", "org"), None, True), UNGUARDED))
        self.assertIsNone(self.key(("id", "a", ("else", "org"), None, False), UNGUARDED))

    def test_the_example(self):
        self.assertEqual(key_of((EXAMPLE,), 0, 0), ("id", SHOP, (), False))
        self.assertEqual(key_of((EXAMPLE,), 0, 1), ("id", HOST, ("in",), True))

    def test_numbers_are_counted_from_0(self):
        writes = tuple((name, "a", None, None, False) for name in "abcde")
        site = tuple((((label, "org"), (), True), writes) for label in "vwxyz")
        for page, label in enumerate("vwxyz"):
            for number, name in enumerate("abcde"):
                self.assertEqual(key_of(site, page, number), (name, (label, "org"), (), True))


class AllKeys(unittest.TestCase):
    def test_none(self):
        self.assertEqual(keys_of(((ADDRESS, ()),)), ())
        self.assertEqual(keys_of(site_of(("id", "a", ("else", "org"), None, False))), ())
        self.assertEqual(keys_of(site_of(("id", "a", None, None, True), address=UNGUARDED)), ())

    def test_the_example(self):
        wanted = (("id", SHOP, (), False), ("id", HOST, ("in",), True))
        self.assertEqual(keys_of((EXAMPLE,)), wanted)
        self.assertEqual(keys_of((EXAMPLE, EXAMPLE)), wanted)

    def test_each_once(self):
        site = (
            (ADDRESS, (("id", "a", SHOP, (), True), ("id", "b", SHOP, (), False), ("id", None, SHOP, None, False))),
            (UNGUARDED, (("id", None, SHOP, (), False),)),
        )
        self.assertEqual(keys_of(site), (("id", SHOP, (), False),))

    def test_of_writes_that_take_something_out(self):
        self.assertEqual(keys_of(site_of(("id", None, None, (), False))), (("id", HOST, (), True),))

    def test_with_and_without_alone_are_two(self):
        site = site_of(("id", "a", None, (), False), ("id", "a", HOST, (), False))
        self.assertEqual(keys_of(site), (("id", HOST, (), False), ("id", HOST, (), True)))

    def test_ascending_by_name_domain_folder_alone(self):
        site = (
            (ADDRESS, (
                ("b", "a", ("shop", "org"), (), False), ("a", "a", None, ("b",), False), ("ab", "a", None, (), False),
                ("a", "a", HOST, ("b",), False), ("a", "a", HOST, ("a", "z"), False),
            )),
            ((("z",) + SHOP, (), False), (("a", "x", None, ("b",), False), ("a", "x", SHOP, ("z",), False))),
            ((("z9", "org"), (), False), (("a", "x", None, None, False), ("a", None, None, ("0",), False))),
        )
        wanted = (
            ("a", ("shop", "org"), ("z",), False),
            ("a", ("www", "shop", "org"), ("a", "z"), False),
            ("a", ("www", "shop", "org"), ("b",), False),
            ("a", ("www", "shop", "org"), ("b",), True),
            ("a", ("z", "shop", "org"), ("b",), True),
            ("a", ("z9", "org"), (), True),
            ("a", ("z9", "org"), ("0",), True),
            ("ab", ("www", "shop", "org"), (), True),
            ("b", ("shop", "org"), (), False),
        )
        self.assertEqual(keys_of(site), wanted)
        self.assertIsInstance(keys_of(site), tuple)
        self.assertEqual(keys_of(site[::-1]), wanted)

    def test_many(self):
        names = [[f"{one}{two}" for two in "abcde"] for one in "abcde"]
        site = tuple((ADDRESS, tuple((name, "a", None, None, False) for name in row)) for row in names)
        self.assertEqual(len(keys_of(site)), 25)


class Effects(unittest.TestCase):
    def test_none(self):
        self.assertEqual(effects(((ADDRESS, ()),), 0), {})
        self.assertEqual(effects(site_of(("id", "a", ("else", "org"), None, False)), 0), {})

    def test_the_example(self):
        self.assertEqual(
            effects((EXAMPLE,), 0),
            {("id", SHOP, (), False): ("a1", True), ("id", HOST, ("in",), True): ("b2", False)},
        )

    def test_none_where_the_last_one_takes_out(self):
        key = ("id", HOST, (), True)
        put, other, out = ("id", "a", None, (), False), ("id", "b", None, (), True), ("id", None, None, (), True)
        self.assertEqual(effects(site_of(out), 0), {key: None})
        self.assertEqual(effects(site_of(put, out), 0), {key: None})
        self.assertEqual(effects(site_of(out, put), 0), {key: ("a", False)})
        self.assertEqual(effects(site_of(put, out, other), 0), {key: ("b", True)})
        self.assertEqual(effects(site_of(other, put), 0), {key: ("a", False)})
        self.assertEqual(effects(site_of(put, other, put, other, out), 0), {key: None})

    def test_the_last_taken_one_counts(self):
        key = ("id", HOST, (), True)
        put, guarded = ("id", "a", None, (), False), ("id", "b", None, (), True)
        gone = ("id", None, None, (), True)
        self.assertEqual(effects(site_of(put, guarded, address=UNGUARDED), 0), {key: ("a", False)})
        self.assertEqual(effects(site_of(put, gone, address=UNGUARDED), 0), {key: ("a", False)})
        self.assertEqual(effects(site_of(put, gone, address=ADDRESS), 0), {key: None})

    def test_alone_and_not_are_two(self):
        site = site_of(("id", "a", None, (), False), ("id", None, HOST, (), False))
        self.assertEqual(effects(site, 0), {("id", HOST, (), False): None, ("id", HOST, (), True): ("a", False)})

    def test_of_the_page_alone(self):
        site = (EXAMPLE, (UNGUARDED, (("id", None, SHOP, (), False), ("no", "c", None, None, False))))
        self.assertEqual(
            effects(site, 1), {("id", SHOP, (), False): None, ("no", HOST, (), True): ("c", False)},
        )

    def test_ascending_also_where_an_effect_comes_again(self):
        site = site_of(
            ("z", "a", None, None, False), ("b", "a", None, (), False), ("b", None, HOST, (), False),
            ("a", "a", SHOP, ("x",), False), ("z", None, None, (), False),
        )
        self.assertEqual(
            list(effects(site, 0).items()),
            [
                (("a", SHOP, ("x",), False), ("a", False)), (("b", HOST, (), False), None),
                (("b", HOST, (), True), ("a", False)), (("z", HOST, (), True), None),
            ],
        )

    def test_a_new_dict_at_each_call(self):
        site = (EXAMPLE,)
        first = effects(site, 0)
        kept = dict(first)
        first.clear()
        first["x"] = 1
        self.assertEqual(effects(site, 0), kept)
        self.assertIsNot(effects(site, 0), effects(site, 0))
        self.assertEqual(site, (EXAMPLE,))

    def test_keys_are_those_of_the_site(self):
        site = (EXAMPLE, PAGE, (UNGUARDED, (WRITE, ("no", None, None, None, False))))
        found = {key for page in range(3) for key in effects(site, page)}
        self.assertEqual(tuple(sorted(found)), keys_of(site))


class WrongQuestions(unittest.TestCase):
    SITE = (EXAMPLE, (ADDRESS, ()), PAGE)

    def refused(self, error, call, *told):
        with self.assertRaises(error) as caught:
            call(*told)
        self.assertIs(caught.exception.__class__, error)
        return caught.exception

    def no_numbers(self):
        return [None, True, False, (), -1, -2, -3, 5, 6, 7, 2 ** 63, 10 ** 5000, -(10 ** 5000), "0", "1"]

    def test_bad_page_of_anything(self):
        for at, thing in enumerate(self.no_numbers() + [3, 4] + odd_things()):
            with self.subTest(at=at):
                self.assertTrue(self.refused(BadPage, key_of, self.SITE, thing, 0).given is thing)
                self.assertTrue(self.refused(BadPage, effects, self.SITE, thing).given is thing)

    def test_pages_up_to_the_bound(self):
        for page in range(3):
            self.assertIsInstance(effects(self.SITE, page), dict)
        self.assertIsNotNone(key_of(self.SITE, 2, 0))

    def test_bad_question_of_anything(self):
        for at, thing in enumerate(self.no_numbers() + [2, 3, 4] + odd_things()):
            with self.subTest(at=at):
                self.assertNotEqual(str(self.refused(BadQuestion, key_of, self.SITE, 0, thing)), "")
                self.refused(BadQuestion, key_of, self.SITE, 1, thing)
        self.refused(BadQuestion, key_of, self.SITE, 1, 0)
        self.refused(BadQuestion, key_of, self.SITE, 2, 1)
        self.refused(BadQuestion, key_of, ((ADDRESS, (WRITE,) * 5),), 0, 5)

    def test_writes_up_to_the_bound(self):
        for number in range(5):
            self.assertEqual(key_of(((ADDRESS, (WRITE,) * 5),), 0, number), ("id", SHOP, (), False))

    def test_no_number_of_a_write_that_is_not_taken_either(self):
        site = site_of(("id", "a", ("else", "org"), None, False))
        self.assertIsNone(key_of(site, 0, 0))
        self.refused(BadQuestion, key_of, site, 0, 1)
        self.refused(BadQuestion, key_of, site, 0, False)

    def test_the_site_ahead_of_the_page_ahead_of_the_number(self):
        for wrong in (None, True, Unlike(), deep(tuple), 10 ** 5000):
            self.refused(BadSite, key_of, [EXAMPLE], wrong, wrong)
            self.refused(BadSite, key_of, [EXAMPLE], 0, wrong)
            self.refused(BadSite, effects, (), wrong)
            self.refused(BadPage, key_of, (EXAMPLE,), wrong, wrong)

    def test_bad_site_of_anything(self):
        for at, thing in enumerate(odd_things() + integers() + [None, True, False, ()]):
            with self.subTest(at=at):
                self.refused(BadSite, key_of, thing, 0, 0)
                self.refused(BadSite, effects, thing, 0)

    def test_places_of_bad_sites(self):
        site = (PAGE, (ADDRESS, (WRITE, WRITE, None)))
        self.assertEqual(self.refused(BadSite, key_of, site, 0, 0).place, (1, 2))
        self.assertEqual(self.refused(BadSite, effects, site, 0).place, (1, 2))


class EveryCall(unittest.TestCase):
    def test_equal_calls_return_equal_results(self):
        site = (EXAMPLE, PAGE, (UNGUARDED, (WRITE, ("no", None, None, None, False))))
        twin = copy.deepcopy(site)
        for _ in range(2):
            self.assertEqual(keys_of(site), keys_of(twin))
            for page in range(3):
                self.assertEqual(effects(site, page), effects(twin, page))
                self.assertEqual(list(effects(site, page)), list(effects(twin, page)))
            self.assertEqual(key_of(site, 2, 0), key_of(twin, 2, 0))
        self.assertEqual(site, twin)

    def test_what_is_refused_is_not_changed(self):
        site = [[list(ADDRESS), [list(WRITE)]]]
        twin = copy.deepcopy(site)
        for call in (need_site, keys_of):
            with self.assertRaises(BadSite):
                call(site)
        self.assertEqual(site, twin)
        rows = ([0], {"a": [1]})
        for thing in rows:
            with self.assertRaises(BadPage):
                effects((PAGE,), thing)
        self.assertEqual(rows, ([0], {"a": [1]}))

    def test_nothing_at_module_level_can_be_changed(self):
        for name, thing in vars(sites).items():
            if not name.startswith("__"):
                self.assertNotIsInstance(thing, (list, dict, set), name)
