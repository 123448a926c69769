"""browser.py: [18], and what [1] says of every module."""

import copy
import unittest

from jarvisits import browser as browser_module
from jarvisits.browser import Browser, under
from jarvisits.errors import BadAddress, BadName, BadPage, BadSite, JarError
from jarvisits.jars import behind, read, sent, visited
from models import chances, jar_by_hand, some_address, some_addresses, some_site
from pages import ADDRESS, HOST, OPEN, OWN, SHOP, WIDE, many_keys, page_of, put
from things import Unlike, deep, integers, odd_things, refused, replaced

SITE = (page_of(put("a")), page_of(put("b", SHOP)), page_of(put(None)))


def state(browser):
    """All that a Browser shows, with one VISIT after the other taken back; it is at its beginning then."""
    shown = []
    for _ in range(100):
        shown.append((browser.site, browser.jar, browser.row, len(browser)))
        if not browser.undo():
            return shown
    raise AssertionError("a Browser with too many VISITs for this test")


def at(site, *row):
    """A Browser behind these VISITs."""
    made = Browser(site)
    for page in row:
        made.visit(page)
    return made


class Visits(unittest.TestCase):
    def test_at_first(self):
        made = Browser(SITE)
        self.assertTrue(made.site is SITE)
        self.assertEqual((made.jar, made.row, len(made)), ((), (), 0))

    def test_what_was_sent_ahead_of_the_writes(self):
        made = Browser(SITE)
        self.assertEqual(made.visit(0), ())
        self.assertEqual(made.visit(1), (("id", "a"),))
        self.assertEqual(made.visit(2), (("id", "a"), ("id", "b")))
        self.assertEqual(made.visit(2), (("id", "b"),))
        self.assertEqual(made.row, (0, 1, 2, 2))
        self.assertEqual(made.jar, ((WIDE, "b", False),))
        self.assertEqual(len(made), 1)

    def test_sent_to_the_address_of_the_page(self):
        site = (page_of(put("a", guarded=True)), page_of(address=OPEN), page_of(address=(SHOP, (), True)))
        made = at(site, 0)
        self.assertEqual((made.visit(1), made.visit(2), made.visit(0)), ((), (), (("id", "a"),)))

    def test_sent_and_read(self):
        made = at(SITE, 0, 1)
        self.assertEqual(made.sent(ADDRESS), (("id", "a"), ("id", "b")))
        self.assertEqual(made.sent((SHOP, (), False)), (("id", "b"),))
        self.assertEqual(made.read(ADDRESS, "id"), "a")
        self.assertEqual(made.read((SHOP, (), False), "id"), "b")
        self.assertIsNone(made.read(ADDRESS, "no"))
        self.assertIsNone(Browser(SITE).read(ADDRESS, "id"))

    def test_as_by_hand(self):
        for chance in chances(60):
            site = some_site(chance)
            made, jar, row = Browser(site), (), ()
            for _ in range(8):
                page = chance.randrange(len(site))
                self.assertEqual(made.visit(page), sent(jar, site[page][0]))
                jar, row = visited(jar, site, page), row + (page,)
                self.assertEqual((made.jar, made.row, len(made)), (jar, row, len(jar)))
                self.assertEqual(made.jar, jar_by_hand(site, row).jar())
                address = some_address(chance)
                self.assertEqual(made.sent(address), sent(jar, address))
                for name in "ab":
                    self.assertEqual(made.read(address, name), read(jar, address, name))

    def test_asking_changes_nothing(self):
        made = at(SITE, 0, 1)
        for _ in range(2):
            made.sent(ADDRESS)
            made.read(ADDRESS, "id")
            self.assertEqual((made.jar, made.row, len(made), OWN in made), (behind(SITE, (0, 1)), (0, 1), 2, True))
        self.assertEqual(state(made), state(at(SITE, 0, 1)))

    def test_more_than_six_keys(self):
        made = at(many_keys(10), 0, 1)
        self.assertEqual(len(made), 10)
        self.assertEqual(len(made.sent(ADDRESS)), 10)
        with made.trial():
            made.clear()
        self.assertEqual(made.row, (0, 1))

    def test_two_browsers_of_one_site(self):
        one, other = Browser(SITE), Browser(SITE)
        one.visit(0)
        self.assertEqual((other.jar, other.row, len(other)), ((), (), 0))
        other.visit(1)
        one.clear()
        self.assertEqual((one.jar, one.row), ((), ()))
        self.assertEqual((other.jar, other.row), (((WIDE, "b", False),), (1,)))
        with one.trial():
            other.visit(2)
        self.assertEqual(other.row, (1, 2))
        self.assertTrue(one.undo())
        self.assertEqual((one.row, other.row), ((0,), (1, 2)))

    def test_many_visits(self):
        made = Browser(SITE)
        for number in range(20_000):
            made.visit(number % 3)
        self.assertEqual(made.row, tuple(number % 3 for number in range(20_000)))
        with made.trial():
            made.clear()
        for _ in range(20_000):
            self.assertTrue(made.undo())
        self.assertFalse(made.undo())
        self.assertEqual((made.row, made.jar), ((), ()))

    def test_the_properties_cannot_be_assigned(self):
        made = at(SITE, 0)
        for name in ("site", "jar", "row"):
            with self.assertRaises(AttributeError):
                setattr(made, name, ())
        self.assertEqual(made.row, (0,))

    def test_kinds_of_what_is_returned(self):
        made = at(SITE, 0)
        self.assertEqual([thing.__class__ for thing in (made.site, made.jar, made.row)], [tuple] * 3)
        self.assertEqual([made.visit(0).__class__, made.sent(ADDRESS).__class__], [tuple] * 2)
        self.assertIsNone(made.clear())
        self.assertIs(made.undo(), True)
        self.assertIs(len(made).__class__, int)


class Undo(unittest.TestCase):
    def test_back_to_the_beginning(self):
        made = at(SITE, 0, 1, 2)
        for row in ((0, 1), (0,), ()):
            self.assertIs(made.undo(), True)
            self.assertEqual((made.row, made.jar), (row, behind(SITE, row)))
        for _ in range(3):
            self.assertIs(made.undo(), False)
            self.assertEqual((made.row, made.jar), ((), ()))

    def test_of_none(self):
        self.assertIs(Browser(SITE).undo(), False)

    def test_on_from_there(self):
        made = at(SITE, 0, 1)
        made.undo()
        made.visit(2)
        self.assertEqual((made.row, made.jar), ((0, 2), ()))
        made.undo()
        made.undo()
        made.visit(1)
        self.assertEqual((made.row, made.jar), ((1,), ((WIDE, "b", False),)))

    def test_a_visit_that_changed_nothing_is_one(self):
        made = at((page_of(),), 0, 0)
        self.assertEqual([made.undo(), made.row, made.undo(), made.row, made.undo()], [True, (0,), True, (), False])

    def test_what_is_refused_is_no_visit(self):
        made = at(SITE, 0)
        for wrong in (3, -1, None, True):
            refused(self, BadPage, made.visit, wrong)
        self.assertEqual((made.row, made.undo(), made.undo()), ((0,), True, False))

    def test_ages_come_back(self):
        made = at(SITE, 0, 1, 2, 0)
        self.assertEqual(made.read(ADDRESS, "id"), "b")
        made.undo()
        made.undo()
        self.assertEqual(made.read(ADDRESS, "id"), "a")


class Clear(unittest.TestCase):
    def test_jar_and_row(self):
        made = at(SITE, 0, 1)
        made.clear()
        self.assertEqual((made.jar, made.row, len(made), OWN in made), ((), (), 0, False))
        self.assertEqual(made.sent(ADDRESS), ())
        self.assertTrue(made.site is SITE)

    def test_undo_takes_it_back_as_one_visit(self):
        made = at(SITE, 0, 1)
        made.clear()
        self.assertIs(made.undo(), True)
        self.assertEqual((made.jar, made.row), (behind(SITE, (0, 1)), (0, 1)))
        self.assertEqual([made.undo(), made.undo(), made.undo()], [True, True, False])

    def test_of_an_empty_one(self):
        made = Browser(SITE)
        made.clear()
        made.clear()
        self.assertEqual((made.jar, made.row), ((), ()))
        self.assertEqual([made.undo(), made.undo(), made.undo()], [True, True, False])

    def test_visits_behind_it(self):
        made = at(SITE, 0, 1)
        made.clear()
        made.visit(1)
        self.assertEqual((made.row, made.jar), ((1,), behind(SITE, (1,))))
        made.clear()
        made.visit(2)
        made.visit(0)
        self.assertEqual(made.row, (2, 0))
        rows = []
        while made.undo():
            rows.append(made.row)
            self.assertEqual(made.jar, behind(SITE, made.row))
        self.assertEqual(rows, [(2,), (), (1,), (), (0, 1), (0,), ()])


class Containing(unittest.TestCase):
    def test_keys(self):
        made = at(SITE, 0, 1)
        self.assertEqual([key in made for key in (OWN, WIDE, ("no", HOST, (), True))], [True, True, False])
        self.assertIs(OWN in made, True)
        made.visit(2)
        self.assertEqual([key in made for key in (OWN, WIDE)], [False, True])
        self.assertIs(OWN not in made, True)
        self.assertFalse(OWN in Browser(SITE))

    def test_what_is_nearly_a_key_that_is_kept(self):
        made = at(SITE, 0, 1)
        for key in (
            OWN[:3] + (False,), OWN[:3] + (1,), WIDE[:3] + (0,), list(OWN), OWN[:3], OWN + (True,),
            OWN[:2] + ([], True), ("id", list(HOST), (), True), (OWN, "a", False), (OWN,), ("id", HOST, ("in",), True),
            "id", ("i", HOST, (), True),
        ):
            self.assertIs(key in made, False)

    def test_of_anything(self):
        made = at(SITE, 0, 1)
        for number, thing in enumerate(odd_things() + integers() + [None, True, False, ()]):
            with self.subTest(number=number):
                self.assertIs(thing in made, False)
                if thing.__class__ is not bool:
                    for part in range(4):
                        key = replaced(OWN, part, thing)
                        empty_folder = part == 2 and thing.__class__ is tuple and len(thing) == 0
                        self.assertIs(key in made, empty_folder)


class Trials(unittest.TestCase):
    def setUp(self):
        self.made = at(SITE, 0, 1)
        self.wanted = state(at(SITE, 0, 1))

    def check(self):
        """All is as it was, what can be undone too."""
        self.assertEqual(self.made.row, (0, 1))
        self.assertEqual(state(self.made), self.wanted)

    def test_it_gives_the_browser(self):
        with self.made.trial() as given:
            self.assertTrue(given is self.made)
        self.check()

    def test_a_block_that_ends_well(self):
        with self.made.trial() as given:
            given.visit(2)
            given.visit(0)
            self.assertEqual(self.made.row, (0, 1, 2, 0))
        self.check()

    def test_a_block_that_ends_by_an_error(self):
        for error in (KeyError, JarError, KeyboardInterrupt, GeneratorExit):
            with self.assertRaises(error):
                with self.made.trial() as given:
                    given.visit(2)
                    raise error("x")
            self.assertEqual(self.made.row, (0, 1))
        self.check()

    def test_the_very_error_goes_on(self):
        wrong = KeyError("x")
        try:
            with self.made.trial():
                raise wrong
        except KeyError as error:
            self.assertTrue(error is wrong)
        else:
            self.fail("no error")

    def test_a_visit_that_is_refused(self):
        with self.assertRaises(BadPage):
            with self.made.trial() as given:
                given.visit(2)
                given.visit(3)
        self.check()

    def test_a_block_that_ends_by_a_return(self):
        def tried(made):
            with made.trial() as given:
                given.visit(2)
                return given.jar

        self.assertEqual(tried(self.made), ((WIDE, "b", False),))
        self.check()

    def test_a_block_that_ends_by_break_or_continue(self):
        for _ in range(2):
            with self.made.trial() as given:
                given.visit(2)
                continue
        while True:
            with self.made.trial() as given:
                given.visit(2)
                break
        self.check()

    def test_one_within_another_one(self):
        with self.made.trial() as outer:
            outer.visit(2)
            with outer.trial() as inner:
                inner.visit(0)
                inner.clear()
                self.assertEqual(inner.row, ())
            self.assertEqual(self.made.row, (0, 1, 2))
            with self.assertRaises(KeyError):
                with self.made.trial() as inner:
                    inner.undo()
                    inner.undo()
                    raise KeyError("x")
            self.assertEqual(self.made.row, (0, 1, 2))
            self.made.visit(1)
        self.check()

    def test_with_undo_in_the_block(self):
        with self.made.trial() as given:
            while given.undo():
                pass
            self.assertEqual(given.row, ())
        self.check()

    def test_with_undo_and_other_visits_in_the_block(self):
        with self.made.trial() as given:
            given.undo()
            given.visit(2)
            given.undo()
            given.undo()
            given.visit(1)
            given.visit(1)
        self.check()

    def test_with_clear_in_the_block(self):
        with self.made.trial() as given:
            given.clear()
            given.visit(2)
            given.clear()
        self.check()

    def test_with_clear_ahead_of_it(self):
        self.made.clear()
        self.made.visit(2)
        with self.made.trial() as given:
            given.undo()
            given.undo()
            given.visit(2)
            self.assertEqual(given.row, (0, 1, 2))
        self.assertEqual((self.made.row, self.made.jar), ((2,), ()))
        self.assertTrue(self.made.undo() and self.made.undo())
        self.check()

    def test_of_an_empty_browser(self):
        made = Browser(SITE)
        with made.trial() as given:
            given.visit(0)
        self.assertEqual((made.row, made.undo()), ((), False))

    def test_what_was_done_between_trial_and_its_block_stays(self):
        made = Browser(SITE)
        trial = made.trial()
        made.visit(0)
        with trial as given:
            given.visit(1)
        self.assertEqual((made.row, made.undo(), made.row), ((0,), True, ()))

    def test_a_trial_that_is_not_begun_does_nothing(self):
        self.made.trial()
        self.made.visit(2)
        self.assertEqual(self.made.row, (0, 1, 2))


class Equality(unittest.TestCase):
    def same(self, one, other, wanted):
        for first, second in ((one, other), (other, one)):
            self.assertIs(first == second, wanted)
            self.assertIs(first != second, not wanted)

    def test_other_rows(self):
        self.same(Browser(SITE), Browser(SITE), True)
        self.same(at(SITE, 0), at(SITE, 0, 0), True)
        self.same(at(SITE, 0, 2), Browser(SITE), True)
        self.same(at(SITE, 0, 1, 2), at(SITE, 1), True)
        made = at(SITE, 0)
        made.clear()
        self.same(made, Browser(SITE), True)
        self.same(made, made, True)

    def test_equal_sites(self):
        self.same(at(SITE, 0), at(copy.deepcopy(SITE), 0), True)

    def test_other_jars(self):
        self.same(at(SITE, 0), Browser(SITE), False)
        self.same(at(SITE, 0), at(SITE, 1), False)
        self.same(at(SITE, 0, 1), at(SITE, 1, 0), False)
        self.same(at((page_of(put("a")), page_of(put("b"))), 0), at((page_of(put("a")), page_of(put("b"))), 1), False)

    def test_other_sites(self):
        self.same(Browser(SITE), Browser(SITE[:2]), False)
        self.same(at(SITE, 0), at(SITE[:1], 0), False)
        self.same(at(SITE, 0), at((SITE[0], SITE[2], SITE[1]), 0), False)

    def test_things_that_are_no_browsers(self):
        made = at(SITE, 0)
        for thing in (SITE, made.jar, (SITE, made.jar), (0,), None, True, False, 0, 1, "", object(), made.trial()):
            self.same(made, thing, False)
        for number, thing in enumerate(odd_things() + integers()):
            with self.subTest(number=number):
                self.assertIs(made == thing, False)
                self.assertIs(made != thing, True)


class Under(unittest.TestCase):
    def test_with_a_trial(self):
        made = at(SITE, 0, 1)
        wanted = state(at(SITE, 0, 1))
        found = under(made.trial(), lambda one: (one is made, one.visit(2), one.row))
        self.assertEqual(found, (True, (("id", "a"), ("id", "b")), (0, 1, 2)))
        self.assertEqual(made.row, (0, 1))
        self.assertEqual(state(made), wanted)

    def test_what_the_deed_returns_itself(self):
        thing = [1]
        self.assertTrue(under(Browser(SITE).trial(), lambda one: thing) is thing)
        self.assertIsNone(under(Browser(SITE).trial(), lambda one: None))

    def test_a_deed_that_raises(self):
        made = at(SITE, 0, 1)
        wrong = KeyError("x")

        def deed(one):
            one.clear()
            raise wrong

        with self.assertRaises(KeyError) as caught:
            under(made.trial(), deed)
        self.assertTrue(caught.exception is wrong)
        self.assertEqual(state(made), state(at(SITE, 0, 1)))
        refused(self, BadPage, under, made.trial(), lambda one: one.visit(7))

    def test_another_manager(self):
        told = []

        class Manager:
            def __enter__(self):
                told.append("in")
                return "given"

            def __exit__(self, kind, value, trace):
                told.append(kind)
                return kind is KeyError

        def deed(one):
            told.append(one)
            raise KeyError(one)

        self.assertEqual(under(Manager(), lambda one: one + "!"), "given!")
        self.assertEqual(told, ["in", None])
        told.clear()
        self.assertIsNone(under(Manager(), deed))
        self.assertEqual(told, ["in", "given", KeyError])

    def test_one_under_another_one(self):
        made = at(SITE, 0)
        found = under(made.trial(), lambda one: (one.visit(1), under(one.trial(), lambda two: two.visit(2)), one.row))
        self.assertEqual(found, ((("id", "a"),), (("id", "a"), ("id", "b")), (0, 1)))
        self.assertEqual(made.row, (0,))


class Errors(unittest.TestCase):
    def test_bad_site_of_anything(self):
        for number, thing in enumerate(odd_things() + integers() + [None, True, False, ()]):
            with self.subTest(number=number):
                refused(self, BadSite, Browser, thing)
        self.assertEqual(refused(self, BadSite, Browser, (SITE[0], (ADDRESS, (put("a"), None)))).place, (1, 1))

    def test_bad_page_of_anything(self):
        made = at(SITE, 0, 1)
        for number, thing in enumerate(odd_things() + [None, True, False, -1, -3, 3, 5, 10 ** 5000]):
            with self.subTest(number=number):
                self.assertTrue(refused(self, BadPage, made.visit, thing).given is thing)
        self.assertEqual(made.row, (0, 1))
        self.assertEqual(state(made), state(at(SITE, 0, 1)))

    def test_bad_address_then_bad_name_of_anything(self):
        made = at(SITE, 0, 1)
        for number, thing in enumerate(odd_things() + integers() + [None, True, False, (), HOST]):
            with self.subTest(number=number):
                self.assertTrue(refused(self, BadAddress, made.sent, thing).given is thing)
                self.assertTrue(refused(self, BadAddress, made.read, thing, thing).given is thing)
                self.assertTrue(refused(self, BadAddress, made.read, thing, "id").given is thing)
                self.assertTrue(refused(self, BadName, made.read, ADDRESS, thing).given is thing)
        self.assertEqual(state(made), state(at(SITE, 0, 1)))

    def test_of_an_empty_browser(self):
        made = Browser(SITE)
        for wrong in (None, True, Unlike(), deep(tuple), deep(list), "", []):
            refused(self, BadAddress, made.sent, wrong)
            refused(self, BadName, made.read, ADDRESS, wrong)
        self.assertIs(made.undo(), False)


class EveryCall(unittest.TestCase):
    def test_what_anything_returned_is_stays_as_it_was(self):
        made = at(SITE, 0)
        kept = (made.jar, made.row, made.visit(1))
        twin = copy.deepcopy(kept)
        made.clear()
        made.visit(2)
        self.assertEqual(kept, twin)

    def test_all_addresses(self):
        for chance in chances(10):
            site = some_site(chance)
            row = tuple(chance.randrange(len(site)) for _ in range(5))
            made = at(site, *row)
            for address in some_addresses():
                self.assertEqual(made.sent(address), jar_by_hand(site, row).sent(address))

    def test_nothing_at_module_level_can_be_changed(self):
        for name, thing in vars(browser_module).items():
            if not name.startswith("__"):
                self.assertNotIsInstance(thing, (list, dict, set), name)
