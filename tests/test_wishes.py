"""wishes.py: [10], [11], and what [1] says of every module."""

import copy
import itertools
import unittest

from jarvisits import wishes
from jarvisits.errors import BadSite, BadWish, TooMany
from jarvisits.jars import behind
from jarvisits.sites import keys_of
from jarvisits.wishes import bar, is_bar, need_wish, row_for
from models import (
    chances, crowded_site, effects_by_hand, few_keys, jar_by_hand, keys_by_hand, some_site, unlike_rows_by_hand,
)
from pages import ADDRESS, HOST, OWN, SHOP, WIDE, many_keys, page_of, put
from things import Unlike, deep, integers, odd_things, refused, replaced

NAMED = ("no", HOST, (), True)


def worth(value, guarded=False):
    return (value, guarded)


def meets(jar, wish):
    """Whether a JAR MEETS a WISH, by the words of [10]."""
    kept = {key: (value, guarded) for key, value, guarded in jar}
    return all((key not in kept) if wanted is None else kept.get(key) == wanted for key, wanted in wish)


def bars(site, wish, pages):
    """Whether these unlike numbers of PAGEs are a BAR, by the words of [11]."""
    outside = [effects_by_hand(page) for number, page in enumerate(site) if number not in pages]
    keys = [(key, wanted) for key, wanted in wish if all(key not in found for found in outside)]
    for number in pages:
        found = effects_by_hand(site[number])
        if not [key for key, wanted in keys if key in found and found[key] != wanted]:
            return False
    return len([key for key, wanted in keys if wanted is not None]) > 0


def all_wishes(site, most=200):
    """WISHes of a SITE: all if there are not more than so many, of EFFECTs that there are and one that there is not."""
    found = [effects_by_hand(page) for page in site]
    choices = []
    for key in keys_by_hand(site):
        worths = {None, ("zzz", False)} | {one[key] for one in found if key in one}
        choices.append([()] + [((key, one),) for one in sorted(worths, key=str)])
    made = [sum(parts, ()) for parts in itertools.product(*choices)]
    return made[::max(1, len(made) // most)]


def small_sites():
    sites = [some_site(chance, 3, 3) for chance in chances(40)]
    sites += [crowded_site(chance, 4, 3, 3) for chance in chances(15)]
    return [site for site in sites if few_keys(site, 4)]


class NeedWish(unittest.TestCase):
    SITE = (page_of(put("a"), put("b", SHOP), put("c", name="no")), page_of(put(None)))
    WISH = ((WIDE, worth("b")), (OWN, worth("a")), (NAMED, None))

    def good(self, thing):
        self.assertTrue(need_wish(self.SITE, thing) is thing)

    def bad(self, thing, place):
        for call, more in ((need_wish, ()), (row_for, ()), (bar, ()), (is_bar, ((0,),))):
            found = refused(self, BadWish, call, self.SITE, thing, *more).place
            self.assertEqual(found, place)
            self.assertIs(found.__class__, place.__class__)

    def test_the_wish_itself(self):
        self.assertEqual(keys_of(self.SITE), (WIDE, OWN, NAMED))
        self.good(self.WISH)
        for at in range(3):
            self.good(self.WISH[at:at + 1])
            self.good(self.WISH[:at] + self.WISH[at + 1:])

    def test_the_empty_wish(self):
        self.good(())
        self.assertEqual(row_for(self.SITE, ()), ())
        self.assertIsNone(bar(self.SITE, ()))

    def test_worths(self):
        for one in (None, ("a", False), ("0", True), ("zzzzzz", False), ("q", True)):
            self.good(((OWN, one),))
        for one in (
            (None, False), (None, True), ("a", None), ("a", 0), ("a", 1), ("a", "True"), ("", False), ("A", False),
            ("abcdefg", False), ("a",), ("a", False, False), ["a", False], "a", (), ("a b", False), (0, False),
            (False, "a"), 0, False, {"a": False}, ("a\n", False),
        ):
            self.bad(((OWN, one),), 0)
            self.bad((self.WISH[0], (OWN, one)), 1)

    def test_keys_of_the_site_only(self):
        for key in (
            ("no", SHOP, (), False), ("id", HOST, (), False), ("id", SHOP, (), True), ("id", HOST, ("in",), True),
            ("i", HOST, (), True), ("id", ("far", "net"), (), True),
        ):
            self.bad(((key, None),), 0)
            self.bad(((key, worth("a")), (NAMED, None)), 0)
            self.bad((self.WISH[0], (key, worth("a"))), 1)

    def test_keys_that_only_are_equal_to_one(self):
        for key in (OWN[:3] + (1,), WIDE[:3] + (0,)):
            self.assertIn(key, keys_of(self.SITE))
            self.bad(((key, None),), 0)

    def test_a_key_that_is_only_taken_out_is_one(self):
        site = (page_of(put(None)),)
        self.assertEqual(need_wish(site, ((OWN, worth("a")),)), ((OWN, worth("a")),))

    def test_keys_of_writes_that_are_not_taken_are_none(self):
        site = (page_of(put("a"), put("b", ("far", "net")), put("c", SHOP, guarded=True), address=(HOST, (), False)),)
        for key in (("id", ("far", "net"), (), False), WIDE):
            self.assertEqual(refused(self, BadWish, need_wish, site, ((key, None),)).place, 0)
        self.assertEqual(need_wish(site, ((OWN, None),)), ((OWN, None),))

    def test_ascending(self):
        self.bad((self.WISH[1], self.WISH[0]), 1)
        self.bad((self.WISH[2], self.WISH[1]), 1)
        self.bad((self.WISH[0], self.WISH[2], self.WISH[1]), 2)
        self.bad(self.WISH[::-1], 1)

    def test_a_key_told_twice(self):
        self.bad((self.WISH[0], self.WISH[0]), 1)
        self.bad((self.WISH[0], (WIDE, None)), 1)
        self.bad(self.WISH + self.WISH[2:], 3)
        self.bad(self.WISH + self.WISH, 3)

    def test_no_pair(self):
        for thing in ((OWN,), (OWN, None, None), [OWN, None], OWN, (None, OWN), (list(OWN), None), {OWN: None}, OWN[0]):
            self.bad((thing,), 0)
            self.bad((self.WISH[0], thing), 1)

    def test_the_first_of_two_faults(self):
        self.bad((self.WISH[1], self.WISH[0], None), 1)
        self.bad((self.WISH[1], None, self.WISH[0]), 1)
        self.bad((None, self.WISH[1], self.WISH[0]), 0)

    def test_no_tuple(self):
        for thing in (list(self.WISH), [], {}, dict(self.WISH), None, True, 0, "", "wish", deep(list), Unlike()):
            self.bad(thing, None)

    def test_anything_for_a_wish(self):
        for at, thing in enumerate(odd_things() + integers() + [None, True, False]):
            with self.subTest(at=at):
                self.bad(thing, 0 if isinstance(thing, tuple) else None)

    def test_anything_for_an_item_and_its_parts(self):
        for at, thing in enumerate(odd_things() + integers() + [True, False]):
            with self.subTest(at=at):
                for number in range(3):
                    self.bad(replaced(self.WISH, number, thing), number)
                    for part in range(2):
                        self.bad(replaced(self.WISH, number, replaced(self.WISH[number], part, thing)), number)
                    for part in range(4):
                        if part < 3 or not isinstance(thing, bool):
                            key = replaced(self.WISH[number][0], part, thing)
                            self.bad(replaced(self.WISH, number, (key, None)), number)

    def test_long_ones(self):
        self.bad(self.WISH * 5_000, 3)
        self.bad((None,) * 20_000, 0)


class Rows(unittest.TestCase):
    def test_by_hand(self):
        site = (page_of(put("a"), put("b", SHOP)), page_of(put("c", guarded=True)), page_of(put(None)))
        for wish, wanted in (
            (((OWN, worth("a")),), (0,)), (((OWN, worth("c", True)),), (1,)), (((OWN, worth("c")),), None),
            (((WIDE, worth("b")), (OWN, None)), (0, 2)), (((WIDE, worth("b")), (OWN, worth("c", True))), (0, 1)),
            (((WIDE, None), (OWN, worth("c", True))), (1,)), (((WIDE, None), (OWN, worth("a"))), None),
            (((WIDE, None), (OWN, None)), ()), (((OWN, worth("a", True)),), None), (((WIDE, None),), ()),
        ):
            self.assertEqual(row_for(site, wish), wanted)
            self.assertEqual(bar(site, wish) is None, wanted is not None)

    def test_the_last_write_of_a_page_counts(self):
        site = (page_of(put("a"), put("b"), put("c", SHOP), put(None, SHOP)),)
        self.assertEqual(row_for(site, ((OWN, worth("b")),)), (0,))
        self.assertIsNone(row_for(site, ((OWN, worth("a")),)))
        self.assertIsNone(row_for(site, ((WIDE, worth("c")),)))

    def test_all_pages_in_one_order(self):
        # Each PAGE but the first takes out what the one behind it leaves.
        names = "abcde"
        pages = []
        for at, name in enumerate(names):
            out = [put(None, name=names[at + 1])] if at < 4 else []
            pages.append(page_of(put("v", name=name), *out))
        site = tuple(pages)
        wish = tuple(((name, HOST, (), True), worth("v")) for name in names)
        self.assertEqual(row_for(site, wish), (0, 1, 2, 3, 4))
        closed = site[:4] + (page_of(put("v", name="e"), put(None, name="a")),)
        self.assertIsNone(row_for(closed, wish))
        self.assertEqual(bar(closed, wish), (0, 1, 2, 3, 4))
        self.assertEqual(row_for(closed, wish[:4]), (0, 1, 2, 3))

    def test_as_all_rows_of_unlike_pages(self):
        for site in small_sites():
            rows = [(row, jar_by_hand(site, row).jar()) for row in unlike_rows_by_hand(len(site))]
            for wish in all_wishes(site):
                wanted = next((len(row) for row, jar in rows if meets(jar, wish)), None)
                row = row_for(site, wish)
                if wanted is None:
                    self.assertIsNone(row)
                    continue
                self.assertEqual(len(row), wanted)
                self.assertEqual(len(set(row)), len(row))
                self.assertTrue(meets(behind(site, row), wish))

    def test_as_all_rows(self):
        # A JAR that MEETS a WISH behind a longer ROW is met by one of unlike PAGEs, too.
        for site in small_sites()[::3]:
            jars = {jar_by_hand(site, row).jar() for row in itertools.product(range(len(site)), repeat=4)}
            for wish in all_wishes(site, 60):
                if any(meets(jar, wish) for jar in jars):
                    self.assertIsNotNone(row_for(site, wish))

    def test_kinds_of_what_is_returned(self):
        site = (page_of(put("a")),)
        row = row_for(site, ((OWN, worth("a")),))
        self.assertEqual([row.__class__, row[0].__class__], [tuple, int])
        found = bar(site, ((OWN, worth("b")),))
        self.assertEqual([found.__class__, found[0].__class__], [tuple, int])
        self.assertIs(is_bar(site, ((OWN, worth("b")),), (0,)), True)
        self.assertIs(is_bar(site, ((OWN, worth("a")),), (0,)), False)


class Bars(unittest.TestCase):
    SITE = (page_of(put("a"), put("b", SHOP)), page_of(put("c"), put(None, SHOP)), page_of(put("d")))

    def test_by_hand(self):
        both = ((WIDE, worth("b")), (OWN, worth("c")))
        self.assertIsNone(row_for(self.SITE, both))
        # The PAGE 2 has an EFFECT on OWN, and so OWN stands only for BARs with this PAGE.
        self.assertEqual([pages for pages in ((0, 1), (0, 1, 2), (0,), (1,), (2,), (0, 2), (1, 2), ())
                          if is_bar(self.SITE, both, pages)], [(0, 1, 2)])
        self.assertEqual(bar(self.SITE, both), (0, 1, 2))
        self.assertFalse(is_bar(self.SITE, ((WIDE, worth("b")),), (0, 1)))
        self.assertTrue(is_bar(self.SITE, ((WIDE, worth("x")),), (0, 1)))
        self.assertFalse(is_bar(self.SITE, ((WIDE, worth("x")),), (0,)))
        self.assertFalse(is_bar(self.SITE, ((WIDE, worth("x")),), (0, 1, 2)))

    def test_some_worth_other_than_none(self):
        site = (page_of(put("a")), page_of(put("b")))
        self.assertFalse(is_bar(site, ((OWN, None),), (0, 1)))
        self.assertIsNone(bar(site, ((OWN, None),)))
        self.assertTrue(is_bar(site, ((OWN, worth("c")),), (0, 1)))
        self.assertTrue(is_bar(site, ((OWN, worth("a", True)),), (0, 1)))

    def test_the_empty_tuple(self):
        for wish in ((), ((OWN, worth("z")),), ((WIDE, worth("z")),), ((OWN, None),)):
            self.assertIs(is_bar(self.SITE, wish, ()), False)

    def test_of_all_tuples_of_ascending_numbers(self):
        for site in small_sites():
            numbers = range(len(site))
            tuples = [some for many in range(len(site) + 1) for some in itertools.combinations(numbers, many)]
            for wish in all_wishes(site, 50):
                for pages in tuples:
                    self.assertIs(is_bar(site, wish, pages), bars(site, wish, pages))

    def test_a_bar_exactly_where_there_is_no_row(self):
        for site in small_sites():
            for wish in all_wishes(site, 50):
                found = bar(site, wish)
                if row_for(site, wish) is None:
                    self.assertTrue(bars(site, wish, found))
                    self.assertTrue(is_bar(site, wish, found))
                    self.assertEqual(found, tuple(sorted(set(found))))
                else:
                    self.assertIsNone(found)

    def test_what_is_no_ascending_tuple_of_numbers_of_pages(self):
        wish = ((OWN, worth("z")),)
        self.assertTrue(is_bar(self.SITE, wish, (0, 1, 2)))
        for thing in (
            [0, 1, 2], (0, 2, 1), (2, 1, 0), (0, 1, 1, 2), (0, 1, 2, 2), (0, 1, 2, 3), (-1, 0, 1, 2), (0, 1, -1),
            (False, True, 2), (False, 1, 2), (0, True, 2), "012", {0: 1, 1: 2}, {0, 1, 2}, range(3), (0, 1, None),
            ("0", "1", "2"), ((0, 1, 2),), None, True, 0, 3, (0, 1, Unlike()), (0, 1, 10 ** 5000), frozenset((0, 1, 2)),
            (0, 1, 2j),
        ):
            self.assertIs(is_bar(self.SITE, wish, thing), False)

    def test_is_bar_of_anything(self):
        wish = ((OWN, worth("z")),)
        for at, thing in enumerate(odd_things() + integers() + [None, True, False, ()]):
            with self.subTest(at=at):
                self.assertIs(is_bar(self.SITE, wish, thing), False)
                self.assertIs(is_bar(self.SITE, wish, (0, 1, thing)), thing.__class__ is int and thing == 2)
                self.assertIs(is_bar(self.SITE, wish, (0, 1, 2, thing)), False)


class LargeSites(unittest.TestCase):
    def test_all_four(self):
        answers = set()
        for chance in chances(6):
            site = crowded_site(chance, 5, 5, 6)
            for wish in all_wishes(site, 6):
                self.assertTrue(need_wish(site, wish) is wish)
                row, found = row_for(site, wish), bar(site, wish)
                answers.add(row is None)
                if row is None:
                    self.assertTrue(bars(site, wish, found))
                else:
                    self.assertIsNone(found)
                    self.assertTrue(meets(jar_by_hand(site, row).jar(), wish))
        self.assertEqual(answers, {True, False})


class OrderOfErrors(unittest.TestCase):
    WRONG = (None, True, Unlike(), deep(tuple), deep(list), 10 ** 5000, "", [])
    CALLS = ((need_wish, ()), (row_for, ()), (bar, ()), (is_bar, ((),)))

    def test_bad_site_first(self):
        for call, more in self.CALLS:
            for wrong in self.WRONG:
                refused(self, BadSite, call, wrong, wrong, *more)
                refused(self, BadSite, call, wrong, (), *more)
            refused(self, BadSite, call, many_keys(7) + (None,), [], *more)

    def test_bad_site_of_anything(self):
        for at, thing in enumerate(odd_things() + integers() + [None, True, False, ()]):
            with self.subTest(at=at):
                for call, more in self.CALLS:
                    refused(self, BadSite, call, thing, (), *more)

    def test_bad_wish_then(self):
        for call, more in self.CALLS:
            for wrong in self.WRONG:
                refused(self, BadWish, call, many_keys(7), wrong, *more)
            self.assertEqual(refused(self, BadWish, call, many_keys(7), (None,), *more).place, 0)

    def test_too_many_then(self):
        six, seven = many_keys(6), many_keys(7)
        for call, more in self.CALLS:
            for wish in ((), ((("a", HOST, (), True), None),)):
                call(six, wish, *more)
                self.assertEqual(refused(self, TooMany, call, seven, wish, *more).most, 6)
        for wrong in self.WRONG:
            refused(self, TooMany, is_bar, seven, (), wrong)
            self.assertIs(is_bar(six, (), wrong), False)

    def test_equal_keys_count_once(self):
        self.assertEqual(row_for(many_keys(6) * 2, ()), ())
        refused(self, TooMany, row_for, many_keys(7) * 2, ())

    def test_places_of_bad_sites(self):
        site = (page_of(put("a")), (ADDRESS, (put("a"), None)))
        for call, more in self.CALLS:
            self.assertEqual(refused(self, BadSite, call, site, (), *more).place, (1, 1))


class EveryCall(unittest.TestCase):
    def test_equal_calls_return_equal_results(self):
        for chance in chances(10):
            site = crowded_site(chance, 4, 4, 4)
            for wish in all_wishes(site, 5):
                twins = copy.deepcopy((site, wish))
                for call in (row_for, bar, need_wish):
                    self.assertEqual(call(site, wish), call(*twins))
                self.assertEqual((site, wish), twins)

    def test_what_is_refused_is_not_changed(self):
        site, wish = NeedWish.SITE, [(OWN, None), [OWN]]
        twin = copy.deepcopy(wish)
        refused(self, BadWish, row_for, site, wish)
        pages = [0, 1]
        self.assertIs(is_bar(site, (), pages), False)
        self.assertEqual((wish, pages), (twin, [0, 1]))

    def test_nothing_at_module_level_can_be_changed(self):
        for name, thing in vars(wishes).items():
            if not name.startswith("__"):
                self.assertNotIsInstance(thing, (list, dict, set), name)
