"""jars.py: [5], [6], and what [1] says of every module."""

import copy
import unittest

from jarvisits import jars
from jarvisits.errors import BadAddress, BadJar, BadName, BadPage, BadRow, BadSite
from jarvisits.jars import behind, need_jar, read, sent, visited
from models import chances, jar_by_hand, some_address, some_site
from things import Unlike, deep, integers, odd_things, refused, replaced

HOST = ("www", "shop", "org")
SHOP = ("shop", "org")
ADDRESS = (HOST, ("in",), True)
UNGUARDED = (HOST, ("in",), False)
# The PAGE of the example of point [6], and the JAR that it leaves of ().
EXAMPLE = (ADDRESS, (("id", "a1", SHOP, None, True), ("id", "b2", None, ("in",), False)))
EXAMPLE_JAR = ((("id", HOST, ("in",), True), "b2", False), (("id", SHOP, (), False), "a1", True))


def page_of(*writes, address=ADDRESS):
    return (address, writes)


def put(value, domain=None, name="id", folder=(), guarded=False):
    """A WRITE, ahead what most tests vary."""
    return (name, value, domain, folder, guarded)


def kept(value, domain=HOST, alone=False, name="id", folder=(), guarded=False):
    """A KEPT, ahead what most tests vary."""
    return ((name, domain, folder, alone), value, guarded)


def left(*writes, of=(), address=ADDRESS):
    """The JAR that a VISIT of a PAGE with these WRITEs leaves of a JAR."""
    return visited(of, (page_of(*writes, address=address),), 0)


class Visits(unittest.TestCase):
    def test_the_example(self):
        self.assertEqual(visited((), (EXAMPLE,), 0), EXAMPLE_JAR)
        self.assertEqual(visited(EXAMPLE_JAR, (EXAMPLE,), 0), EXAMPLE_JAR)
        self.assertEqual(behind((EXAMPLE,), (0,)), EXAMPLE_JAR)

    def test_kinds_of_what_is_returned(self):
        jar = visited((), (EXAMPLE,), 0)
        self.assertIs(jar.__class__, tuple)
        self.assertIs(jar[0].__class__, tuple)
        self.assertIs(jar[0][0][3], True)
        self.assertIs(jar[1][0][3], False)
        self.assertEqual([one[2] for one in jar], [False, True])

    def test_a_page_without_writes_leaves_the_jar(self):
        self.assertEqual(left(), ())
        self.assertEqual(left(of=EXAMPLE_JAR), EXAMPLE_JAR)

    def test_the_page_with_the_number(self):
        site = (page_of(put("a")), page_of(put("b")), page_of(put("c")))
        for page, value in enumerate("abc"):
            self.assertEqual(visited((), site, page), (kept(value, alone=True),))

    def test_with_a_domain_and_without_it_are_two(self):
        self.assertEqual(left(put("a"), put("b", HOST)), (kept("a", alone=True), kept("b")))
        self.assertEqual(left(put("b", HOST), put("a")), (kept("b"), kept("a", alone=True)))

    def test_writing_over_changes_value_and_guarded(self):
        self.assertEqual(left(put("a"), put("b", guarded=True)), (kept("b", alone=True, guarded=True),))
        self.assertEqual(left(put("a", guarded=True), put("b")), (kept("b", alone=True),))
        jar = left(put("a", guarded=True))
        self.assertEqual(left(put("a"), of=jar), (kept("a", alone=True),))
        self.assertEqual(left(put("c"), of=jar, address=UNGUARDED), (kept("c", alone=True),))

    def test_writing_over_leaves_the_age(self):
        self.assertEqual(left(put("a"), put("b", HOST), put("c")), (kept("c", alone=True), kept("b")))
        jar = left(put("a"), put("b", HOST), put("c", SHOP))
        self.assertEqual(left(put("d"), of=jar), (kept("d", alone=True), kept("b"), kept("c", SHOP)))
        self.assertEqual(left(put("d", HOST), of=jar), (kept("a", alone=True), kept("d"), kept("c", SHOP)))

    def test_taking_out_and_in_again_makes_the_youngest(self):
        again = left(put("a"), put("b", HOST), put("c", SHOP), put(None), put("d"))
        self.assertEqual(again, (kept("b"), kept("c", SHOP), kept("d", alone=True)))
        jar = left(put("a"), put("b", HOST), put("c", SHOP))
        again = left(put(None, HOST), put("b", HOST), of=jar)
        self.assertEqual(again, (kept("a", alone=True), kept("c", SHOP), kept("b")))
        out = left(put(None), of=jar)
        self.assertEqual(out, (kept("b"), kept("c", SHOP)))
        self.assertEqual(left(put("a"), of=out), (kept("b"), kept("c", SHOP), kept("a", alone=True)))

    def test_taking_out_what_is_not_kept_does_nothing(self):
        self.assertEqual(left(put(None)), ())
        self.assertEqual(left(put(None), put("a")), (kept("a", alone=True),))
        self.assertEqual(left(put(None), put(None, name="no"), of=EXAMPLE_JAR), EXAMPLE_JAR)
        self.assertEqual(left(put(None, HOST, folder=("in",)), of=EXAMPLE_JAR), EXAMPLE_JAR)

    def test_taking_out_takes_the_guarded_out_too(self):
        jar = left(put("a", guarded=True))
        self.assertEqual(left(put(None), of=jar), ())
        self.assertEqual(left(put(None, guarded=True), of=left(put("a"))), ())

    def test_what_is_not_taken_does_nothing(self):
        for value in ("z", None):
            for domain in (("else", "org"), ("m",) + HOST, ("www", "shop"), ("p", "org")):
                self.assertEqual(left(put(value, domain), of=EXAMPLE_JAR), EXAMPLE_JAR)
            for domain in (None, HOST, SHOP):
                write = put(value, domain, guarded=True)
                jar = (kept("a", alone=True), kept("b"), kept("c", SHOP))
                self.assertEqual(left(write, of=jar, address=UNGUARDED), jar)
                self.assertNotEqual(left(write, of=jar), jar)
        self.assertEqual(left(put("a"), put("b", ("else", "org")), put("c", SHOP, guarded=True), address=UNGUARDED),
                         (kept("a", alone=True),))


class Order(unittest.TestCase):
    def test_lesser_names_first(self):
        jar = left(put("1", name="b"), put("2", name="ab"), put("3", name="a"), put("4", name="aa"))
        self.assertEqual([one[0][0] for one in jar], ["a", "aa", "ab", "b"])

    def test_names_ahead_of_folders(self):
        jar = left(put("1", name="b", folder=("x", "y")), put("2", name="a", folder=()))
        self.assertEqual([one[0][0] for one in jar], ["a", "b"])

    def test_longer_folders_first(self):
        folders = [(), ("a",), ("a", "b"), ("a", "b", "c"), ("a", "b", "c", "d")]
        jar = left(*[put("1", folder=folder) for folder in folders])
        self.assertEqual([one[0][2] for one in jar], folders[::-1])
        jar = left(put("1", folder=("abcdef",)), put("2", folder=("b", "c")), put("3", folder=("a",)))
        self.assertEqual([one[0][2] for one in jar], [("b", "c"), ("a",), ("abcdef",)])

    def test_lesser_ones_of_equally_long_folders_first(self):
        folders = (("b", "a"), ("a", "z"), ("9", "z"), ("ab", "0"), ("a", "b"))
        jar = left(*[put("1", folder=folder) for folder in folders])
        self.assertEqual([one[0][2] for one in jar], [("9", "z"), ("a", "b"), ("a", "z"), ("ab", "0"), ("b", "a")])

    def test_elder_ones_of_one_folder_first(self):
        for writes in ((put("a"), put("b", HOST), put("c", SHOP)), (put("c", SHOP), put("a"), put("b", HOST)),
                       (put("b", HOST), put("c", SHOP), put("a"))):
            self.assertEqual([one[1] for one in left(*writes)], [write[1] for write in writes])

    def test_a_younger_one_with_a_longer_folder_stands_ahead(self):
        jar = left(put("a"), put("b", HOST), put("c", folder=("in",)), put("d", SHOP))
        self.assertEqual([one[1] for one in jar], ["c", "a", "b", "d"])

    def test_ages_do_not_count_between_folders(self):
        ahead = left(put("a"), put("c", folder=("in",)), put("b", SHOP))
        self.assertEqual(ahead, left(put("c", folder=("in",)), put("a"), put("b", SHOP)))

    def test_a_jar_of_another_site(self):
        far = ("far", "net")
        jar = (kept("1", far, name="a"), kept("2", far, folder=("z",)), kept("3", far), kept("4", far, name="z"))
        self.assertEqual(
            left(put("5"), put("6", folder=("a",)), of=jar),
            (jar[0], kept("6", alone=True, folder=("a",)), jar[1], jar[2], kept("5", alone=True), jar[3]),
        )
        self.assertEqual(left(put(None), of=jar), jar)

    def test_a_jar_with_ages_of_another_order(self):
        # No ROW of this SITE leaves these two in either order with these VALUEs.
        site = (page_of(put("a"), put("b", HOST)), page_of(put(None), put("a")))
        for jar in ((kept("x", alone=True), kept("y")), (kept("y"), kept("x", alone=True))):
            over = tuple((key, {"x": "a", "y": "b"}[value], guarded) for key, value, guarded in jar)
            self.assertEqual(visited(jar, site, 0), over)
            self.assertEqual(visited(jar, site, 1), (kept("y"), kept("a", alone=True)))


class Rows(unittest.TestCase):
    SITE = (
        page_of(put("a"), put("b", SHOP)), page_of(put(None), put("c", HOST), put("d", SHOP, guarded=True)),
        page_of(put("e", folder=("in",)), put(None, HOST), put("f", guarded=True), address=UNGUARDED),
    )

    def test_the_empty_row(self):
        self.assertEqual(behind(self.SITE, ()), ())

    def test_by_hand(self):
        self.assertEqual(behind(self.SITE, (0, 1)), (kept("d", SHOP, guarded=True), kept("c")))
        self.assertEqual(behind(self.SITE, (1, 0)), (kept("c"), kept("b", SHOP), kept("a", alone=True)))
        self.assertEqual(
            behind(self.SITE, (0, 1, 2)), (kept("e", alone=True, folder=("in",)), kept("d", SHOP, guarded=True)),
        )

    def test_one_visit_after_the_other(self):
        for chance in chances(150):
            site = some_site(chance)
            row = tuple(chance.randrange(len(site)) for _ in range(chance.randint(0, 12)))
            jar = ()
            for page in row:
                jar = visited(jar, site, page)
                self.assertIs(need_jar(jar), jar)
            self.assertEqual(behind(site, row), jar)
            self.assertEqual(jar, jar_by_hand(site, row).jar())

    def test_long_rows(self):
        for chance in chances(5):
            site = some_site(chance)
            row = tuple(chance.randrange(len(site)) for _ in range(5000))
            self.assertEqual(behind(site, row), jar_by_hand(site, row).jar())
        self.assertEqual(behind((EXAMPLE,), (0,) * 20_000), EXAMPLE_JAR)

    def test_bad_rows(self):
        for row in (
            (0, 3), (3,), (-1,), (0, -3), (True,), (0, False), (None,), ("0",), ((0,),), (0, 1, 2, 0, 10 ** 5000),
            [0, 1], [], {0: 1}, range(2), "01", "", b"\x00", None, 0, True, (0, [1]), (Unlike(),),
        ):
            self.assertTrue(refused(self, BadRow, behind, self.SITE, row).given is row)

    def test_pages_up_to_the_bound(self):
        self.assertEqual(behind(self.SITE, (0, 1, 2)), jar_by_hand(self.SITE, (0, 1, 2)).jar())
        for many in range(1, 6):
            site = (EXAMPLE,) * many
            self.assertEqual(behind(site, tuple(range(many))), EXAMPLE_JAR)
            refused(self, BadRow, behind, site, tuple(range(many + 1)))

    def test_a_fault_late_in_a_long_row(self):
        row = (0,) * 5000 + (3,)
        self.assertTrue(refused(self, BadRow, behind, self.SITE, row).given is row)

    def test_bad_rows_of_anything(self):
        for at, thing in enumerate(odd_things() + [None, True, False, -1, 5, 10 ** 5000]):
            if isinstance(thing, tuple) and len(thing) == 1 and thing[0].__class__ is int and thing[0] == 0:
                # The one among them that is a ROW.
                continue
            with self.subTest(at=at):
                self.assertTrue(refused(self, BadRow, behind, self.SITE, thing).given is thing)
                row = (0, thing)
                self.assertTrue(refused(self, BadRow, behind, self.SITE, row).given is row)
                refused(self, BadRow, behind, self.SITE, (thing, 0, 1, 2))
        refused(self, BadRow, behind, self.SITE, ((0,),))


class Sent(unittest.TestCase):
    def goes(self, one, address):
        """Whether a KEPT is SENT to an ADDRESS; one beside it goes nowhere near."""
        beside = kept("far", ("far", "net"), name="zzz")
        found = sent((one, beside), address)
        self.assertIn(found, ((), ((one[0][0], one[1]),)))
        self.assertEqual(read((one, beside), address, one[0][0]), one[1] if found else None)
        return found != ()

    def test_the_example(self):
        self.assertEqual(sent(EXAMPLE_JAR, ADDRESS), (("id", "b2"), ("id", "a1")))
        self.assertEqual(read(EXAMPLE_JAR, ADDRESS, "id"), "b2")
        self.assertEqual(sent(EXAMPLE_JAR, UNGUARDED), (("id", "b2"),))
        self.assertEqual(sent(EXAMPLE_JAR, (SHOP, ("in",), True)), (("id", "a1"),))
        self.assertEqual(sent(EXAMPLE_JAR, (HOST, (), True)), (("id", "a1"),))
        self.assertEqual(read(EXAMPLE_JAR, (HOST, (), True), "id"), "a1")
        self.assertEqual(sent(EXAMPLE_JAR, (HOST, (), False)), ())

    def test_alone(self):
        one = kept("a", alone=True)
        self.assertTrue(self.goes(one, (HOST, (), False)))
        for host in (("m",) + HOST, SHOP, ("ww", "shop", "org"), ("w",) * 5, ("www", "shop")):
            self.assertFalse(self.goes(one, (host, (), True)))

    def test_not_alone(self):
        one = kept("a")
        for host in (HOST, ("m",) + HOST, ("m", "n") + HOST):
            self.assertTrue(self.goes(one, (host, (), False)))
        for host in (SHOP, ("shop", "www", "org"), ("ww", "shop", "org"), HOST + ("www",), ("www", "shop")):
            self.assertFalse(self.goes(one, (host, (), True)))

    def test_folders(self):
        one = kept("a", folder=("in", "now"))
        for path in (("in", "now"), ("in", "now", "x"), ("in", "now", "in", "now")):
            self.assertTrue(self.goes(one, (HOST, path, False)))
        for path in ((), ("in",), ("in", "no"), ("now", "in"), ("in", "nowx"), ("x", "in", "now"), ("in", "x", "now")):
            self.assertFalse(self.goes(one, (HOST, path, True)))
        for path in ((), ("in",), ("a", "b", "c", "d")):
            self.assertTrue(self.goes(kept("a"), (HOST, path, False)))

    def test_guarded(self):
        for alone in (True, False):
            self.assertTrue(self.goes(kept("a", alone=alone, guarded=True), (HOST, (), True)))
            self.assertFalse(self.goes(kept("a", alone=alone, guarded=True), (HOST, (), False)))
            self.assertTrue(self.goes(kept("a", alone=alone), (HOST, (), True)))
            self.assertTrue(self.goes(kept("a", alone=alone), (HOST, (), False)))

    def test_the_order_of_the_jar(self):
        jar = (
            kept("1", name="a"), kept("2", folder=("in",)), kept("3", SHOP, folder=("in",)), kept("4", SHOP),
            kept("5", HOST), kept("5", alone=True), kept("6", name="no"),
        )
        wanted = (("a", "1"), ("id", "2"), ("id", "3"), ("id", "4"), ("id", "5"), ("id", "5"), ("no", "6"))
        self.assertEqual(sent(jar, ADDRESS), wanted)
        self.assertEqual(sent(jar[:3] + (jar[5], jar[4], jar[3]) + jar[6:], ADDRESS),
                         wanted[:3] + (wanted[4], wanted[5], wanted[3]) + wanted[6:])
        self.assertIs(sent(jar, ADDRESS).__class__, tuple)
        self.assertIs(sent(jar, ADDRESS)[0].__class__, tuple)

    def test_nothing(self):
        self.assertEqual(sent((), ADDRESS), ())
        self.assertIs(sent((), ADDRESS).__class__, tuple)
        self.assertIsNone(read((), ADDRESS, "id"))

    def test_read_is_the_first_of_its_name(self):
        jar = (kept("1", name="a"), kept("2", SHOP), kept("3"), kept("4", name="ida"))
        self.assertEqual(read(jar, ADDRESS, "id"), "2")
        self.assertEqual(read(jar, ADDRESS, "a"), "1")
        self.assertEqual(read(jar, ADDRESS, "ida"), "4")
        self.assertIsNone(read(jar, ADDRESS, "i"))
        self.assertIsNone(read(jar, ADDRESS, "idaa"))
        self.assertIsNone(read(jar, (("a", "b"), (), True), "id"))

    def test_as_by_hand(self):
        for chance in chances(150):
            site = some_site(chance, names="abc")
            row = tuple(chance.randrange(len(site)) for _ in range(chance.randint(0, 8)))
            jar, aged = behind(site, row), jar_by_hand(site, row)
            for address in [page[0] for page in site] + [some_address(chance) for _ in range(8)]:
                pairs = aged.sent(address)
                self.assertEqual(sent(jar, address), pairs)
                for name in "abcd":
                    self.assertEqual(read(jar, address, name), dict(pairs[::-1]).get(name))


class Jars(unittest.TestCase):
    LONG = (
        kept("1", name="a"), kept("2", folder=("in", "b")), kept("3", folder=("a",)), kept("4", SHOP, folder=("a",)),
        kept("5", folder=("in",)), kept("6", alone=True), kept("7"),
    )

    def good(self, thing):
        self.assertTrue(need_jar(thing) is thing)

    def bad(self, thing, place):
        calls = [(need_jar, ()), (visited, ((EXAMPLE,), 0)), (sent, (ADDRESS,)), (read, (ADDRESS, "id"))]
        for call, rest in calls:
            found = refused(self, BadJar, call, thing, *rest).place
            self.assertEqual(found, place)
            self.assertIs(found.__class__, place.__class__)

    def test_a_jar_itself(self):
        for jar in ((), EXAMPLE_JAR, EXAMPLE_JAR[:1], self.LONG, self.LONG[::2]):
            self.good(jar)

    def test_any_age(self):
        self.good((kept("1"), kept("2", SHOP), kept("3", alone=True)))
        self.good((kept("3", alone=True), kept("2", SHOP), kept("1")))

    def test_any_number(self):
        names = [one + two for one in "abcdefghij" for two in "abcdefghij"]
        self.good(tuple(kept("1", name=name) for name in names))

    def test_no_tuple(self):
        things = [
            list(EXAMPLE_JAR), [], {}, {EXAMPLE_JAR[0]: 1}, None, True, 0, "", "jar", b"", Unlike(), deep(list),
            {EXAMPLE_JAR[0]}, 10 ** 5000, frozenset(EXAMPLE_JAR),
        ]
        for at, thing in enumerate(things):
            with self.subTest(at=at):
                self.bad(thing, None)

    def test_bad_jar_of_anything(self):
        for at, thing in enumerate(odd_things() + integers() + [None, True, False]):
            with self.subTest(at=at):
                self.bad(thing, 0 if isinstance(thing, tuple) else None)

    def test_anything_for_a_kept(self):
        for at, thing in enumerate(odd_things() + integers() + [None, True, False, (), EXAMPLE, self.LONG[0][0]]):
            with self.subTest(at=at):
                for number in range(len(self.LONG)):
                    self.bad(replaced(self.LONG, number, thing), number)
                self.bad(self.LONG + (thing,), 7)

    def test_anything_for_each_part_of_a_kept(self):
        for at, thing in enumerate(odd_things() + integers() + [None, ()]):
            with self.subTest(at=at):
                for part in range(3):
                    self.bad(replaced(self.LONG, 2, replaced(self.LONG[2], part, thing)), 2)

    def test_anything_for_each_part_of_a_key(self):
        for at, thing in enumerate(odd_things() + integers() + [None]):
            with self.subTest(at=at):
                for part in range(4):
                    key = replaced(self.LONG[2][0], part, thing)
                    self.bad(replaced(self.LONG, 2, replaced(self.LONG[2], 0, key)), 2)

    def test_three_things_in_a_tuple(self):
        one = self.LONG[0]
        lists = ([list(one[0]), "1", False], (list(one[0]), "1", False))
        for thing in (one[:2], one + (False,), list(one), one[0]) + lists:
            self.bad((thing,), 0)

    def test_four_things_in_a_key(self):
        key = ("id", HOST, (), True)
        lists = (list(key), ("id", list(HOST), (), True), ("id", HOST, [], True))
        for thing in (key[:3], key + (True,), key[::-1]) + lists:
            self.bad(((thing, "a", False),), 0)

    def test_names(self):
        for name in ("a", "z", "abcdef"):
            self.good((kept("1", name=name),))
        for name in ("", "abcdefg", "i1", "1", "A", "i d", "id\n", "-"):
            self.bad((kept("1", name=name),), 0)

    def test_values(self):
        for value in ("a", "0", "z9z9z9"):
            self.good((kept(value),))
        for value in (None, "", "abcdefg", "A", "-", "a b", False, 0, 1, ()):
            self.bad((kept(value),), 0)

    def test_hosts(self):
        for host in (("a", "b"), ("a", "b", "c", "d", "e")):
            self.good((kept("1", host),))
        for host in ((), ("a",), ("a",) * 6, None, "a.b", ["a", "b"], ("A", "b"), ("", "b"), ("abcdefg", "b")):
            self.bad((kept("1", host),), 0)

    def test_folders(self):
        for folder in ((), ("a",), ("a", "b", "c", "d")):
            self.good((kept("1", folder=folder),))
        for folder in (None, ("a",) * 5, "/", [], ("",), ("A",), ("abcdefg",)):
            self.bad((kept("1", folder=folder),), 0)

    def test_alone_and_guarded(self):
        for thing in (0, 1, None, "", (), "True"):
            self.bad((kept("1", alone=thing),), 0)
            self.bad((kept("1", guarded=thing),), 0)

    def test_a_key_that_one_ahead_has(self):
        self.bad((kept("1"), kept("1")), 1)
        self.bad((kept("1"), kept("2", guarded=True)), 1)
        self.bad((kept("1"), kept("2", SHOP), kept("3", alone=True), kept("4")), 3)
        self.bad((kept("1"), kept("2", SHOP), kept("3", SHOP), kept("4")), 2)
        self.good((kept("1"), kept("1", alone=True)))

    def test_one_that_does_not_stand_behind_the_one_ahead(self):
        self.bad((kept("1", name="b"), kept("2", name="a")), 1)
        self.bad((kept("1", name="ab"), kept("2", name="a")), 1)
        self.bad((kept("1"), kept("2", folder=("a",))), 1)
        self.bad((kept("1", folder=("b",)), kept("2", folder=("a", "z"))), 1)
        self.bad((kept("1", folder=("b",)), kept("2", folder=("a",))), 1)
        self.bad((kept("1", folder=("a", "b")), kept("2", folder=("a", "a"))), 1)
        self.bad((kept("1", folder=("b",)), kept("2", SHOP, folder=("b",)), kept("3", folder=("a",))), 2)
        for at in range(1, 6):
            if at != 3:
                swapped = self.LONG[:at - 1] + (self.LONG[at], self.LONG[at - 1]) + self.LONG[at + 1:]
                self.bad(swapped, at)

    def test_it_is_the_one_straight_ahead(self):
        # The third stands behind the second, though not behind the first.
        self.bad((kept("1", name="c"), kept("2", name="a"), kept("3", name="b")), 1)

    def test_the_first_of_two_faults(self):
        unordered = kept("1", name="a")
        self.bad((kept("2"), unordered, None), 1)
        self.bad((kept("2"), None, unordered), 1)
        self.bad((kept("2"), kept("3"), unordered), 1)
        self.bad((kept("2"), unordered, kept("3")), 1)
        self.bad((None, None), 0)


class OrderOfErrors(unittest.TestCase):
    WRONG = (None, True, Unlike(), deep(tuple), deep(list), 10 ** 5000, "", [])

    def test_visited(self):
        for wrong in self.WRONG:
            refused(self, BadJar, visited, [], wrong, wrong)
            refused(self, BadJar, visited, (None,), (EXAMPLE,), wrong)
            refused(self, BadSite, visited, (), wrong, wrong)
            refused(self, BadSite, visited, EXAMPLE_JAR, wrong, 0)
            self.assertTrue(refused(self, BadPage, visited, EXAMPLE_JAR, (EXAMPLE,), wrong).given is wrong)

    def test_pages_of_anything(self):
        site = (EXAMPLE, EXAMPLE)
        for at, thing in enumerate(odd_things() + [None, True, False, -1, -2, 2, 5, 10 ** 5000]):
            with self.subTest(at=at):
                self.assertTrue(refused(self, BadPage, visited, (), site, thing).given is thing)

    def test_places_of_bad_sites(self):
        site = (EXAMPLE, (ADDRESS, EXAMPLE[1] + (None,)))
        self.assertEqual(refused(self, BadSite, visited, (), site, 0).place, (1, 2))
        self.assertEqual(refused(self, BadSite, behind, site, (0,)).place, (1, 2))

    def test_behind(self):
        for wrong in self.WRONG:
            refused(self, BadSite, behind, wrong, wrong)
            refused(self, BadSite, behind, wrong, ())
            refused(self, BadRow, behind, (EXAMPLE,), wrong)

    def test_sent(self):
        for wrong in self.WRONG:
            refused(self, BadJar, sent, (None,), wrong)
            self.assertTrue(refused(self, BadAddress, sent, EXAMPLE_JAR, wrong).given is wrong)

    def test_read(self):
        for wrong in self.WRONG:
            refused(self, BadJar, read, (None,), wrong, wrong)
            refused(self, BadJar, read, (None,), ADDRESS, wrong)
            self.assertTrue(refused(self, BadAddress, read, EXAMPLE_JAR, wrong, wrong).given is wrong)
            refused(self, BadAddress, read, EXAMPLE_JAR, wrong, "id")
            self.assertTrue(refused(self, BadName, read, EXAMPLE_JAR, ADDRESS, wrong).given is wrong)

    def test_addresses_of_anything(self):
        for at, thing in enumerate(odd_things() + integers() + [None, True, False, (), HOST]):
            with self.subTest(at=at):
                self.assertTrue(refused(self, BadAddress, sent, EXAMPLE_JAR, thing).given is thing)
                self.assertTrue(refused(self, BadAddress, read, (), thing, "id").given is thing)
                for part in range(3 if thing.__class__ is not tuple else 0):
                    if part < 2 or not isinstance(thing, bool):
                        refused(self, BadAddress, sent, EXAMPLE_JAR, replaced(ADDRESS, part, thing))

    def test_names_of_anything(self):
        for at, thing in enumerate(odd_things() + integers() + [None, True, False, (), "i1", "abcdefg"]):
            with self.subTest(at=at):
                self.assertTrue(refused(self, BadName, read, EXAMPLE_JAR, ADDRESS, thing).given is thing)
                self.assertTrue(refused(self, BadName, read, (), ADDRESS, thing).given is thing)


class EveryCall(unittest.TestCase):
    def test_equal_calls_return_equal_results(self):
        for chance in chances(20):
            site = some_site(chance)
            twin = copy.deepcopy(site)
            row = tuple(chance.randrange(len(site)) for _ in range(6))
            for _ in range(2):
                self.assertEqual(behind(site, row), behind(twin, row))
                jar = behind(site, row)
                self.assertEqual(visited(jar, site, 0), visited(copy.deepcopy(jar), twin, 0))
                self.assertEqual(sent(jar, ADDRESS), sent(copy.deepcopy(jar), ADDRESS))
            self.assertEqual(site, twin)

    def test_what_is_refused_is_not_changed(self):
        row, jar = [0, [0]], [list(EXAMPLE_JAR[0])]
        twins = copy.deepcopy((row, jar))
        refused(self, BadRow, behind, (EXAMPLE,), row)
        refused(self, BadJar, visited, jar, (EXAMPLE,), 0)
        refused(self, BadJar, sent, jar, ADDRESS)
        self.assertEqual((row, jar), twins)

    def test_nothing_at_module_level_can_be_changed(self):
        for name, thing in vars(jars).items():
            if not name.startswith("__"):
                self.assertNotIsInstance(thing, (list, dict, set), name)
