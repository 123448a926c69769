"""readings.py: [14], and what [1] says of every module."""

import copy
import unittest

from jarvisits import readings as readings_module
from jarvisits.errors import BadAddress, BadName, BadPage, BadSite, TooMany
from jarvisits.jars import behind, read, sent
from jarvisits.readings import readings, sure
from models import all_rows, chances, crowded_site, few_keys, jar_by_hand, some_addresses, some_site
from pages import ADDRESS, HOST, OPEN, SHOP, many_keys, page_of, put
from things import Unlike, deep, integers, odd_things, refused


def small_sites():
    sites = [some_site(chance, 3, 3) for chance in chances(30)]
    sites += [crowded_site(chance, 2, 4, 4) for chance in chances(15)]
    sites += [crowded_site(chance, 3, 3, 3) for chance in chances(8)]
    return [site for site in sites if few_keys(site)]


class Readings(unittest.TestCase):
    def test_by_hand(self):
        site = (page_of(put("a")), page_of(put("b", SHOP)), page_of(put(None), put("c", HOST)), page_of())
        found = readings(site, 3, ADDRESS, "id")
        self.assertEqual(list(found), [None, "a", "b", "c"])
        self.assertEqual(found, {None: (3,), "a": (0, 3), "b": (1, 3), "c": (2, 3)})
        self.assertEqual(readings(site, 0, ADDRESS, "id"), {"a": (0,), "b": (1, 0), "c": (2, 0)})
        self.assertEqual(readings(site, 2, ADDRESS, "id"), {"b": (1, 2), "c": (2,)})
        self.assertEqual(readings(site, 3, (SHOP, (), True), "id"), {None: (3,), "b": (1, 3)})
        self.assertEqual(readings(site, 3, ADDRESS, "no"), {None: (3,)})

    def test_the_elder_one_is_read(self):
        site = (page_of(put("a")), page_of(put("b", SHOP)))
        self.assertEqual(readings(site, 0, ADDRESS, "id"), {"a": (0,), "b": (1, 0)})
        self.assertEqual(readings(site, 1, ADDRESS, "id"), {"a": (0, 1), "b": (1,)})

    def test_the_longer_folder_is_read(self):
        site = (page_of(put("a", folder=("in",))), page_of(put("b")))
        self.assertEqual(readings(site, 1, ADDRESS, "id"), {"a": (0, 1), "b": (1,)})
        self.assertEqual(readings(site, 0, ADDRESS, "id"), {"a": (0,)})

    def test_a_row_of_more_visits_than_two(self):
        # The wide one has the value 2 and is the elder one only if the page 0 was visited ahead of the page 1.
        site = (page_of(put("1", SHOP)), page_of(put("3"), put("2", SHOP)))
        self.assertEqual(readings(site, 0, ADDRESS, "id"), {"1": (0,), "3": (1, 0)})
        self.assertEqual(readings(site, 1, ADDRESS, "id"), {"2": (0, 1), "3": (1,)})
        site = (page_of(put("1", SHOP)), page_of(put("3"), put("2", SHOP)), page_of(put("4")))
        found = readings(site, 2, ADDRESS, "id")
        self.assertEqual({value: len(row) for value, row in found.items()}, {"1": 2, "2": 3, "4": 1})
        self.assertEqual(found["2"], (0, 1, 2))

    def test_guarded_ones(self):
        site = (page_of(put("a", guarded=True)), page_of(put("b", SHOP)))
        self.assertEqual(readings(site, 0, OPEN, "id"), {None: (0,), "b": (1, 0)})
        self.assertEqual(readings(site, 0, ADDRESS, "id"), {"a": (0,), "b": (1, 0)})

    def test_values_ascending_and_none_first(self):
        values = ("b", "0", "zz", "a9", "9", "a")
        site = tuple(page_of(put(value)) for value in values[:4]) + (page_of(),)
        self.assertEqual(list(readings(site, 4, ADDRESS, "id")), [None, "0", "a9", "b", "zz"])
        site = tuple(page_of(put(value, name="abcdef"[at]), put(value)) for at, value in enumerate(values[1:4]))
        site += (page_of(put(None, name="no")), page_of())
        self.assertEqual(list(readings(site, 4, ADDRESS, "id")), [None, "0", "a9", "zz"])

    def test_without_none_if_it_is_always_sent(self):
        self.assertEqual(readings((page_of(put("a")), page_of()), 0, ADDRESS, "id"), {"a": (0,)})

    def test_as_all_rows(self):
        for site in small_sites():
            most = 6 if len(site) < 3 else 5
            rows = [(row, jar_by_hand(site, row).jar()) for row in all_rows(len(site), most) if row]
            for address in some_addresses()[::7]:
                for name in ("a", "id"):
                    for page in range(len(site)):
                        wanted = {}
                        for row, jar in rows:
                            if row[-1] == page:
                                wanted.setdefault(read(jar, address, name), len(row))
                        found = readings(site, page, address, name)
                        self.check_rows(site, page, address, name, found)
                        lengths = {value: len(row) for value, row in found.items() if len(row) <= most}
                        self.assertEqual(lengths, wanted)

    def check_rows(self, site, page, address, name, found):
        """Each ROW ends with the PAGE, and its reading is READ behind it; they stand in their order."""
        for value, row in found.items():
            self.assertEqual(row[-1], page)
            pairs = jar_by_hand(site, row).sent(address)
            self.assertEqual(next((told for other, told in pairs if other == name), None), value)
        self.assertEqual(list(found), sorted(found, key=lambda value: (value is not None, value or "")))

    def test_large_sites(self):
        for chance in chances(6):
            site = crowded_site(chance, 5, 5, 6)
            address = (("z", "x", "a", "b"), ("p",), True)
            for page in range(5):
                self.check_rows(site, page, address, "id", readings(site, page, address, "id"))

    def test_kinds_of_what_is_returned(self):
        found = readings((page_of(put("a")),), 0, ADDRESS, "id")
        self.assertIs(found.__class__, dict)
        self.assertEqual([row.__class__ for row in found.values()], [tuple])


class Sure(unittest.TestCase):
    def test_by_hand(self):
        site = (
            page_of(put("a"), put("b", SHOP, name="no"), put("c", name="far", folder=("x",)), put(None, name="out")),
            page_of(put("d", name="out")),
        )
        self.assertEqual(sure(site, 0, ADDRESS), ("id", "no"))
        self.assertEqual(sure(site, 0, (HOST, ("x",), False)), ("far", "id", "no"))
        self.assertEqual(sure(site, 0, (SHOP, ("x",), False)), ("no",))
        self.assertEqual(sure(site, 1, ADDRESS), ("out",))
        self.assertEqual(sure(site, 1, (SHOP, (), False)), ())

    def test_a_name_told_twice_stands_once(self):
        self.assertEqual(sure((page_of(put("a"), put("b", SHOP)),), 0, ADDRESS), ("id",))

    def test_what_stays_is_not_sure(self):
        self.assertEqual(sure((page_of(put("a")), page_of()), 1, ADDRESS), ())

    def test_which_value_is_read_may_hang_on_what_was_ahead(self):
        site = (page_of(put("a")), page_of(put("b", SHOP)))
        self.assertEqual(sure(site, 0, ADDRESS), ("id",))
        self.assertEqual(len(readings(site, 0, ADDRESS, "id")), 2)

    def test_guarded_ones(self):
        site = (page_of(put("a", guarded=True)),)
        self.assertEqual((sure(site, 0, ADDRESS), sure(site, 0, OPEN)), (("id",), ()))

    def test_as_all_rows(self):
        for site in small_sites():
            rows = [(row, behind(site, row)) for row in all_rows(len(site), 3) if row]
            for address in some_addresses()[::5]:
                for page in range(len(site)):
                    names = [{name for name, _ in sent(jar, address)} for row, jar in rows if row[-1] == page]
                    self.assertEqual(sure(site, page, address), tuple(sorted(set.intersection(*names))))

    def test_not_surely_read_exactly_if_none_is_a_reading(self):
        for site in small_sites():
            for address in some_addresses()[::11]:
                for page in range(len(site)):
                    for name in ("a", "b", "id"):
                        known = None not in readings(site, page, address, name)
                        self.assertIs(name in sure(site, page, address), known)


class OrderOfErrors(unittest.TestCase):
    WRONG = (None, True, Unlike(), deep(tuple), deep(list), 10 ** 5000, "", [])

    def test_bad_site_first(self):
        for wrong in self.WRONG:
            refused(self, BadSite, readings, wrong, wrong, wrong, wrong)
            refused(self, BadSite, sure, wrong, wrong, wrong)
        self.assertEqual(refused(self, BadSite, readings, many_keys(7) + (None,), 9, (), "").place, (2,))
        self.assertEqual(refused(self, BadSite, sure, many_keys(7) + (None,), 9, ()).place, (2,))

    def test_bad_site_of_anything(self):
        for at, thing in enumerate(odd_things() + integers() + [None, True, False, ()]):
            with self.subTest(at=at):
                refused(self, BadSite, readings, thing, 0, ADDRESS, "id")
                refused(self, BadSite, sure, thing, 0, ADDRESS)

    def test_bad_page_then(self):
        for site in (many_keys(6), many_keys(7)):
            for wrong in self.WRONG:
                self.assertTrue(refused(self, BadPage, readings, site, wrong, wrong, wrong).given is wrong)
                self.assertTrue(refused(self, BadPage, sure, site, wrong, wrong).given is wrong)

    def test_bad_page_of_anything(self):
        for at, thing in enumerate(odd_things() + [None, True, False, -1, -2, 2, 5, 10 ** 5000]):
            with self.subTest(at=at):
                self.assertTrue(refused(self, BadPage, readings, many_keys(6), thing, ADDRESS, "id").given is thing)
                self.assertTrue(refused(self, BadPage, sure, many_keys(6), thing, ADDRESS).given is thing)

    def test_bad_address_then(self):
        for site in (many_keys(6), many_keys(7)):
            for wrong in self.WRONG:
                self.assertTrue(refused(self, BadAddress, readings, site, 1, wrong, wrong).given is wrong)
                self.assertTrue(refused(self, BadAddress, sure, site, 1, wrong).given is wrong)

    def test_bad_address_of_anything(self):
        for at, thing in enumerate(odd_things() + integers() + [None, True, False, (), HOST]):
            with self.subTest(at=at):
                self.assertTrue(refused(self, BadAddress, readings, many_keys(2), 0, thing, "id").given is thing)
                self.assertTrue(refused(self, BadAddress, sure, many_keys(2), 0, thing).given is thing)

    def test_bad_name_then(self):
        for site in (many_keys(6), many_keys(7)):
            for wrong in self.WRONG:
                self.assertTrue(refused(self, BadName, readings, site, 1, ADDRESS, wrong).given is wrong)

    def test_bad_name_of_anything(self):
        for at, thing in enumerate(odd_things() + integers() + [None, True, False, (), "i1", "abcdefg"]):
            with self.subTest(at=at):
                self.assertTrue(refused(self, BadName, readings, many_keys(2), 0, ADDRESS, thing).given is thing)

    def test_too_many_last(self):
        self.assertEqual(readings(many_keys(6), 1, ADDRESS, "a"), {None: (1,), "a": (0, 1)})
        self.assertEqual(sure(many_keys(6), 1, ADDRESS), ("f",))
        self.assertEqual(refused(self, TooMany, readings, many_keys(7), 1, ADDRESS, "a").most, 6)
        self.assertEqual(refused(self, TooMany, sure, many_keys(7), 1, ADDRESS).most, 6)


class EveryCall(unittest.TestCase):
    def test_what_a_caller_does_to_it_shows_in_no_later_call(self):
        site = (page_of(put("a")), page_of())
        first = readings(site, 1, ADDRESS, "id")
        wanted = dict(first)
        first.clear()
        first["z"] = (7,)
        self.assertEqual(readings(site, 1, ADDRESS, "id"), wanted)

    def test_equal_calls_return_equal_results(self):
        for site in small_sites()[::5]:
            twin = copy.deepcopy(site)
            for address in some_addresses()[::9]:
                found = readings(site, 0, address, "a")
                self.assertEqual(list(found.items()), list(readings(twin, 0, copy.deepcopy(address), "a").items()))
                self.assertEqual(sure(site, 0, address), sure(twin, 0, address))
            self.assertEqual(site, twin)

    def test_nothing_at_module_level_can_be_changed(self):
        for name, thing in vars(readings_module).items():
            if not name.startswith("__"):
                self.assertNotIsInstance(thing, (list, dict, set), name)
