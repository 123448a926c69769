"""likeness.py: [15], [16], and what [1] says of every module."""

import copy
import os
import subprocess
import sys
import unittest

from jarvisits import likeness
from jarvisits.errors import BadQuestion, BadSite, TooMany
from jarvisits.jars import behind, sent, visited
from jarvisits.kinds import kinds
from jarvisits.likeness import alike, lean, needless, parted
from jarvisits.sites import need_site
from models import (
    HOSTS, all_rows, chances, crowded_site, few_keys, jar_by_hand, keys_by_hand, some_addresses, some_site,
    unlike_rows_by_hand,
)
from pages import ADDRESS, FAR, FIVE, HOST, OPEN, SHOP, page_of, put
from things import Unlike, deep, integers, odd_things, refused


def names_site(names, more=0):
    """A SITE with a KEY of each of these NAMEs, and so many PAGEs without WRITEs more."""
    pages = [page_of(*[put("a", name=name) for name in names[at:at + 5]]) for at in range(0, max(len(names), 1), 5)]
    return tuple(pages) + (page_of(),) * more


def changed(chance, site, times=1):
    """A SITE that often is ALIKE: with some WRITEs swapped, left out, told twice or put behind their taking out."""
    pages = [(address, list(writes)) for address, writes in site]
    for _ in range(times):
        writes = chance.choice(pages)[1]
        if writes:
            at, other = chance.randrange(len(writes)), chance.randrange(len(writes))
            deed = chance.randrange(4)
            if deed == 0:
                writes[at], writes[other] = writes[other], writes[at]
            elif deed == 1:
                del writes[at]
            elif len(writes) < 5:
                one = writes[at]
                writes.insert(at, one if deed == 2 else (one[0], None) + one[2:])
    return tuple((address, tuple(writes)) for address, writes in pages)


def without(site, page, number):
    writes = site[page][1]
    return site[:page] + ((site[page][0], writes[:number] + writes[number + 1:]),) + site[page + 1:]


def least_by_hand(one, other, most):
    """How long the shortest ROW of at most so many VISITs is behind which SITEs send unlike things, or None."""
    for row in all_rows(len(one), most):
        jar, other_jar = jar_by_hand(one, row), jar_by_hand(other, row)
        if any(jar.sent(address) != other_jar.sent(address) for address in some_addresses()):
            return len(row)
    return None


def least_by_pairs(one, other):
    """The same of all ROWs, by the pairs of JARs behind them."""
    addresses = some_addresses()
    lengths, latest = {((), ())}, [((), ())]
    for many in range(1, 10_000):
        further = []
        for jar, other_jar in latest:
            for page in range(len(one)):
                pair = (visited(jar, one, page), visited(other_jar, other, page))
                if pair not in lengths:
                    lengths.add(pair)
                    further.append(pair)
                    if any(sent(pair[0], address) != sent(pair[1], address) for address in addresses):
                        return many
        if not further:
            return None
        latest = further


def small_pairs():
    """Pairs of small SITEs, ALIKE ones among them."""
    found = []
    for chance in chances(60):
        site = some_site(chance, 3, 3) if chance.random() < 0.5 else crowded_site(chance, 2, 4, 3)
        found.append((site, changed(chance, site, chance.randint(1, 2))))
    for chance in chances(40):
        site = few_values(crowded_site(chance, 3, 3, 3))
        found.append((site, changed(chance, site, chance.randint(1, 3))))
    return [(one, other) for one, other in found if few_keys(one + other)]


def few_values(site):
    """The SITE with VALUEs of one letter each, of which there are few, so that unlike KEYs often have equal ones."""
    def shorter(value):
        return value if value is None else "xy"[int(value[-1]) % 2]

    return tuple(
        (address, tuple((name, shorter(value), *more) for name, value, *more in writes)) for address, writes in site
    )


class Alike(unittest.TestCase):
    def check(self, one, other, length):
        """The two are parted by a ROW that is as short as any and so long, or are ALIKE if this is None."""
        for first, second in ((one, other), (other, one)):
            self.assertIs(alike(first, second), length is None)
            found = parted(first, second)
            if length is None:
                self.assertIsNone(found)
                continue
            row, address = found
            self.assertEqual(len(row), length)
            self.assertNotEqual(jar_by_hand(first, row).sent(address), jar_by_hand(second, row).sent(address))
            self.assertNotEqual(sent(behind(first, row), address), sent(behind(second, row), address))

    def test_a_site_and_itself(self):
        for site in ((page_of(),), (page_of(put("a"), put("b", SHOP)), page_of(put(None)))):
            self.check(site, site, None)
            self.check(site, copy.deepcopy(site), None)

    def test_values(self):
        self.check((page_of(put("a")),), (page_of(put("b")),), 1)
        self.check((page_of(put("a")),), (page_of(),), 1)
        self.check((page_of(put("a")),), (page_of(put(None)),), 1)
        self.check((page_of(put("b"), put("a")),), (page_of(put("a")),), None)
        self.check((page_of(put(None)),), (page_of(),), None)

    def test_a_value_that_is_seen_behind_two_visits_only(self):
        site = (page_of(put("a")), page_of(put(None)))
        self.check(site, (site[0], page_of()), 2)
        self.check((page_of(put("a")), page_of(put(None), put("b"))), (page_of(put("a")), page_of(put("b"))), None)

    def test_writes_that_are_not_taken(self):
        more = (put("z", FAR), put("z", ("m",) + HOST))
        self.check((page_of(put("a")),), (page_of(*more, put("a"), *more),), None)
        one, other = page_of(address=OPEN), page_of(put("a", guarded=True), put(None, SHOP, guarded=True), address=OPEN)
        self.check((one,), (other,), None)

    def test_pages_of_unlike_addresses(self):
        self.check((page_of(put("a", HOST)),), (page_of(put("a", HOST), address=(("m",) + HOST, (), False)),), None)
        self.check((page_of(put("a")),), (page_of(put("a"), address=(SHOP, (), True)),), 1)

    def test_alone_and_not_alone(self):
        self.check((page_of(put("a")),), (page_of(put("a", HOST)),), 1)
        self.assertEqual(parted((page_of(put("a")),), (page_of(put("a", HOST)),))[1][0][1:], HOST)

    def test_a_host_of_five_labels_has_none_within_it(self):
        one, other = page_of(put("a"), address=(FIVE, (), True)), page_of(put("a", FIVE), address=(FIVE, (), True))
        self.check((one,), (other,), None)
        self.assertNotEqual(behind((one,), (0,)), behind((other,), (0,)))
        wide = page_of(put("b", FIVE[1:]), address=(FIVE, (), True))
        self.check((one, wide), (other, wide), None)

    def test_guarded_and_not(self):
        one, other = (page_of(put("a")),), (page_of(put("a", guarded=True)),)
        self.check(one, other, 1)
        self.assertIs(parted(one, other)[1][2], False)

    def test_guarded_ones_in_another_order(self):
        one = (page_of(put("a", guarded=True), put("b", SHOP)),)
        other = (page_of(put("b", SHOP), put("a", guarded=True)),)
        self.check(one, other, 1)
        self.assertIs(parted(one, other)[1][2], True)

    def test_folders(self):
        self.check((page_of(put("a", folder=("p",))),), (page_of(put("a")),), 1)
        self.check((page_of(put("a", folder=("p",)), put("b")),), (page_of(put("b"), put("a", folder=("p",))),), None)
        self.check(
            (page_of(put("a", folder=("p",)), put("b")),), (page_of(put("b", folder=("p",)), put("a")),), 1,
        )
        self.check((page_of(put("a", folder=("p", "q"))),), (page_of(put("a", folder=("p", "r"))),), 1)
        # The same VALUEs are SENT at the longest PATH, and not at the shorter one.
        one = (page_of(put("a", folder=("p",)), put("a", SHOP, folder=("p",))),)
        self.check(one, (page_of(put("a", folder=("p",)), put("a", SHOP)),), 1)

    def test_names(self):
        self.check((page_of(put("a"), put("b", name="no")),), (page_of(put("b", name="no"), put("a")),), None)
        self.check((page_of(put("a")),), (page_of(put("a", name="no")),), 1)
        self.check((page_of(put("a"), put("b", name="no")),), (page_of(put("b"), put("a", name="no")),), 1)

    def test_ages_in_one_visit(self):
        self.check((page_of(put("a"), put("b", SHOP)),), (page_of(put("b", SHOP), put("a")),), 1)
        self.check((page_of(put("a"), put("a", SHOP)),), (page_of(put("a", SHOP), put("a")),), None)

    def test_ages_that_are_seen_behind_three_visits_only(self):
        site = (page_of(put("a")), page_of(put("b", SHOP)))
        again = (page_of(put(None), put("a")), page_of(put("b", SHOP)))
        self.check(site, again, 3)
        self.assertEqual(parted(site, again)[0], (0, 1, 0))
        self.check(site, (page_of(put("a")), page_of(put("c"), put("b", SHOP))), 1)

    def test_ages_of_keys_that_never_meet(self):
        # Neither D is WITHIN the other, so the two SITEs are ALIKE, and their JARs are not.
        pages = [page_of(put(value), address=((value, "shop", "org"), (), True)) for value in "ab"]
        again = [page_of(put(None), put(value), address=((value, "shop", "org"), (), True)) for value in "ab"]
        for one, other in ((pages, again), ([pages[0], again[1]], [again[0], pages[1]])):
            self.check(tuple(one), tuple(other), None)
            self.assertNotEqual(behind(tuple(one), (0, 1, 0, 1, 0)), behind(tuple(other), (0, 1, 0, 1, 0)))

    def test_ages_of_an_alone_one_and_one_around_it(self):
        at = (SHOP, (), True)
        site = (page_of(put("a"), address=at), page_of(put("b", HOST)))
        again = (page_of(put(None), put("a"), address=at), page_of(put("b", HOST)))
        self.check(site, again, None)
        site = (page_of(put("a", SHOP), address=at), page_of(put("b", HOST)))
        again = (page_of(put(None, SHOP), put("a", SHOP), address=at), page_of(put("b", HOST)))
        self.check(site, again, 3)

    def test_equal_values_between_unlike_ones(self):
        # The outer two have one VALUE: where all three are SENT, swapping these two is not seen.
        host = ("z", "x", "a", "b")
        for order, length in (((3, 0, 2), None), ((2, 0, 3), None), ((2, 3, 0), 1), ((0, 2, 3), 1)):
            writes = {0: put("y", host), 2: put("x", host[2:]), 3: put("x", host[1:])}
            one = (page_of(writes[2], writes[0], writes[3], address=(host, (), True)),)
            other = (page_of(*[writes[at] for at in order], address=(host, (), True)),)
            self.check(one, other, length)

    def test_equal_values_of_which_one_is_guarded(self):
        # All is SENT in one order to SECURE ADDRESSES, and without the guarded one it is not.
        host = ("z", "x", "a", "b")
        outer, middle, guarded = put("x", host[2:]), put("y", host), put("x", host[1:], guarded=True)
        one = (page_of(outer, middle, guarded, address=(host, (), True)),)
        other = (page_of(guarded, middle, outer, address=(host, (), True)),)
        self.check(one, other, 1)
        self.assertIs(parted(one, other)[1][2], False)

    def test_which_one_is_guarded_at_a_host_of_five_labels(self):
        address = (FIVE, (), True)
        one = (page_of(put("a", guarded=True), put("b", FIVE), address=address),)
        other = (page_of(put("a"), put("b", FIVE, guarded=True), address=address),)
        self.check(one, other, 1)
        self.assertIs(parted(one, other)[1][2], False)
        self.check((page_of(put("a"), put("b", FIVE), address=address),),
                   (page_of(put("a", FIVE), put("b"), address=address),), None)

    def test_the_least_of_several_names_hosts_and_folders(self):
        # Of one pair the order of age is seen behind three VISITs, and of the other one the VALUE behind one or two.
        for late, early in (("a", "b"), ("b", "a")):
            for folder in ((), ("p",)):
                site = (page_of(put("x", name=late), put("v", name=early, folder=folder)),
                        page_of(put("y", SHOP, name=late), put(None, name=early, folder=folder)))
                again = (page_of(put(None, name=late), *site[0][1]), site[1])
                other = (page_of(*again[0][1][:2], put("w", name=early, folder=folder)), site[1])
                kept = (again[0], page_of(site[1][1][0]))
                self.check(site, again, 3)
                self.check(site, other, 1)
                self.check(site, kept, 2)
        one = (page_of(put("x"), put("z", folder=("p",))), page_of(put("y", SHOP), put("y", SHOP, folder=("p",))))
        for more in (put("z", folder=("p",)), put("w", folder=("p",))):
            other = (page_of(put(None), put("x"), more), one[1])
            self.check(one, other, 3 if more[1] == "z" else 1)

    def test_as_all_rows(self):
        lengths = set()
        for one, other in small_pairs():
            most = 5 if len(one) < 3 else 4
            wanted = least_by_hand(one, other, most)
            found = parted(one, other)
            if found is None or len(found[0]) <= most:
                self.check(one, other, wanted)
                lengths.add(wanted)
            else:
                self.assertIsNone(wanted)
        self.assertGreaterEqual(lengths, {None, 1, 2, 3})

    def test_as_all_pairs_of_jars(self):
        for one, other in small_pairs()[::3]:
            self.check(one, other, least_by_pairs(one, other))

    def test_the_same_pairs_as_often(self):
        # What the last fact of [15] says: ROWs of unlike PAGEs show it, if the order does not count.
        for one, other in small_pairs()[::4]:
            if alike(one, other):
                for row in unlike_rows_by_hand(len(one)):
                    jar, other_jar = jar_by_hand(one, row), jar_by_hand(other, row)
                    for address in some_addresses():
                        self.assertEqual(sorted(jar.sent(address)), sorted(other_jar.sent(address)))

    def test_kinds_of_what_is_returned(self):
        row, address = parted((page_of(put("a")),), (page_of(),))
        self.assertEqual([row.__class__, address.__class__, len(address)], [tuple, tuple, 3])
        self.assertIs(parted((page_of(put("a")),), (page_of(),)).__class__, tuple)


class Needless(unittest.TestCase):
    def test_by_hand(self):
        site = (
            page_of(put("a"), put("b"), put("z", FAR), put("c", SHOP)),
            page_of(put(None), put("d"), put(None, name="no"), put(None, SHOP, folder=("p",))),
        )
        # Without (1, 0) the own one that the page 0 put stays the elder one.
        self.assertEqual(needless(site), [(0, 0), (0, 2), (1, 2), (1, 3)])
        self.assertEqual(lean(site), (page_of(put("b"), put("c", SHOP)), page_of(put(None), put("d"))))

    def test_none(self):
        for site in ((page_of(),), (page_of(put("a")),), (page_of(put("a")), page_of(put(None)))):
            self.assertEqual(needless(site), [])
            self.assertEqual(lean(site), site)

    def test_each_of_two_but_not_both(self):
        site = (page_of(put("a"), put("a")),)
        self.assertEqual(needless(site), [(0, 0), (0, 1)])
        self.assertEqual(lean(site), (page_of(put("a")),))

    def test_the_first_is_left_out(self):
        # One of the two must stay, so that the own one becomes the younger one.
        site = (page_of(put(None, guarded=True), put(None), put("a")), page_of(put("b", SHOP)))
        self.assertEqual(needless(site), [(0, 0), (0, 1)])
        self.assertEqual(lean(site), (page_of(put(None), put("a")), site[1]))
        self.assertEqual(lean((site[1], site[0])), (site[1], page_of(put(None), put("a"))))

    def test_an_earlier_one_is_needless_when_a_later_one_is_left_out(self):
        # The first keeps what the second does to the order of age from being seen.
        site = (page_of(put(None, SHOP), put(None), put("a"), put("b", SHOP)),)
        self.assertEqual(needless(site), [(0, 1)])
        less = without(site, 0, 1)
        self.assertEqual(needless(less), [(0, 0)])
        self.assertEqual(lean(site), (page_of(put("a"), put("b", SHOP)),))

    def test_a_page_without_writes_stays_a_page(self):
        site = (page_of(put(None)), page_of(put("z", FAR)), page_of())
        self.assertEqual(needless(site), [(0, 0), (1, 0)])
        self.assertEqual(lean(site), (page_of(),) * 3)

    def test_as_alike_tells(self):
        for one, other in small_pairs()[::2]:
            for site in (one, other):
                places = [(page, number) for page, (_, writes) in enumerate(site) for number in range(len(writes))]
                self.assertEqual(needless(site), [place for place in places if alike(site, without(site, *place))])
                left = site
                while needless(left):
                    left = without(left, *needless(left)[0])
                self.assertEqual(lean(site), left)
                self.assertTrue(alike(site, left))
                self.assertEqual(lean(left), left)
                self.assertEqual(need_site(left), left)

    def test_as_all_rows(self):
        for one, _ in small_pairs()[::6]:
            for page, number in [(page, number) for page in range(len(one)) for number in range(len(one[page][1]))]:
                wanted = least_by_pairs(one, without(one, page, number)) is None
                self.assertIs((page, number) in needless(one), wanted)

    def test_kinds_of_what_is_returned(self):
        found = needless((page_of(put(None)),))
        self.assertEqual([found.__class__, found[0].__class__], [list, tuple])
        self.assertIs(lean((page_of(put(None)),)).__class__, tuple)


class LargeSites(unittest.TestCase):
    def check(self, site, other):
        found = parted(site, other)
        self.assertIs(alike(site, other), found is None)
        if found is not None:
            row, address = found
            self.assertNotEqual(jar_by_hand(site, row).sent(address), jar_by_hand(other, row).sent(address))

    def test_of_all_sorts(self):
        for chance in chances(8):
            site = crowded_site(chance, 5, 5, 6)
            self.check(site, changed(chance, site, 3))
            left = lean(site)
            self.assertTrue(alike(site, left))
            self.assertEqual(needless(left), [])

    def test_many_pairs_of_orders_that_are_not_seen(self):
        # One SITE keeps in the order of last VISITs, the other one in that of first VISITs, all with one VALUE.
        domains = (None, FIVE, FIVE[1:], FIVE[2:], FIVE[3:])
        again = tuple(page_of(put(None, domain), put("a", domain), address=(FIVE, (), True)) for domain in domains)
        once = tuple(page_of(put("a", domain), address=(FIVE, (), True)) for domain in domains)
        self.check(again, once)
        self.assertTrue(alike(again, once))
        self.assertEqual(needless(again), [(page, 0) for page in range(5)])
        self.assertEqual(lean(again), once)
        seen = once[:4] + (page_of(put("b", domains[4]), address=(FIVE, (), True)),)
        unlike = again[:4] + (page_of(put(None, domains[4]), put("b", domains[4]), address=(FIVE, (), True)),)
        self.check(unlike, seen)
        self.assertEqual(len(parted(unlike, seen)[0]), 3)


class OrderOfErrors(unittest.TestCase):
    WRONG = (None, True, Unlike(), deep(tuple), deep(list), 10 ** 5000, "", [])

    def test_bad_site_of_anything(self):
        good = names_site("a")
        for at, thing in enumerate(odd_things() + integers() + [None, True, False, ()]):
            with self.subTest(at=at):
                for call in (alike, parted):
                    refused(self, BadSite, call, thing, good)
                    refused(self, BadSite, call, good, thing)
                for call in (needless, lean):
                    refused(self, BadSite, call, thing)

    def test_bad_site_of_the_first_one_then_of_the_second_one(self):
        first, second = (page_of(), (ADDRESS, (None,))), (None,)
        for call in (alike, parted):
            self.assertEqual(refused(self, BadSite, call, first, second).place, (1, 0))
            self.assertEqual(refused(self, BadSite, call, second, first).place, (0,))
            self.assertEqual(refused(self, BadSite, call, names_site("abcdefg"), first).place, (1, 0))
            self.assertEqual(refused(self, BadSite, call, first, names_site("abcdefg")).place, (1, 0))
            self.assertEqual(refused(self, BadSite, call, names_site("a"), first).place, (1, 0))

    def test_bad_question_then(self):
        one = names_site("abcdefg")
        for call in (alike, parted):
            for first, second in ((one, one[:1]), (one[:1], one), (one, one + one[:1]), (one[1:], one * 2)):
                refused(self, BadQuestion, call, first, second)

    def test_too_many_of_two_sites_together(self):
        for one, other, too_many in (
            ("abcd", "abcd", False), ("abcd", "efgh", True), ("abc", "def", False), ("abcd", "cdef", False),
            ("abcd", "bcde", False), ("abcd", "defg", True), ("abcdef", "abcdef", False), ("abcdef", "bcdefg", True),
            ("abcdef", "", False), ("", "abcdef", False), ("abcdefg", "", True), ("", "abcdefg", True),
            ("abcdefg", "abcdefg", True), ("abcdef", "g", True), ("g", "abcdef", True), ("abcdefg", "a", True),
        ):
            first = names_site(one, 0 if len(one) > 5 else 1)
            second = names_site(other, 0 if len(other) > 5 else 1)
            for call in (alike, parted):
                if too_many:
                    self.assertEqual(refused(self, TooMany, call, first, second).most, 6)
                else:
                    call(first, second)
            if not too_many:
                self.assertIs(alike(first, second), one == other)

    def test_too_many_of_one_site(self):
        for call in (needless, lean):
            call(names_site("abcdef"))
            self.assertEqual(refused(self, TooMany, call, names_site("abcdefg")).most, 6)
            self.assertEqual(refused(self, TooMany, call, names_site("abcdefghij")).most, 6)


class EveryCall(unittest.TestCase):
    def test_what_a_caller_does_to_it_shows_in_no_later_call(self):
        site = (page_of(put("a"), put("a")),)
        first = needless(site)
        first.clear()
        first.append((7, 7))
        self.assertEqual(needless(site), [(0, 0), (0, 1)])

    def test_equal_calls_return_equal_results(self):
        for one, other in small_pairs()[::10]:
            twins = copy.deepcopy((one, other))
            self.assertEqual(parted(one, other), parted(*twins))
            self.assertEqual((needless(one), lean(other)), (needless(twins[0]), lean(twins[1])))
            self.assertEqual((one, other), twins)

    def test_equal_calls_of_several_runs(self):
        # What is found first may not hang on the order of sets, which is another one in each run.
        told = "from test_likeness import *; print([parted(*pair) for pair in small_pairs()[::7]])"
        found = set()
        for seed in "0123":
            place = dict(os.environ, PYTHONHASHSEED=seed, PYTHONPATH=os.pathsep.join(sys.path))
            run = subprocess.run([sys.executable, "-B", "-c", told], env=place, stdout=subprocess.PIPE, check=True)
            found.add(run.stdout)
        self.assertEqual(len(found), 1)

    def test_the_addresses_of_these_tests_are_of_all_kinds(self):
        for chance in chances(20):
            site = some_site(chance)
            missing = {kind[0] for kind in kinds(site)} - {key[1] for key in keys_by_hand(site)}
            for host in missing:
                self.assertTrue([at for at, _, _ in some_addresses() if at[1:] == host[1:]] or host[-1] == "a", host)
        self.assertEqual(len(set(some_addresses())), len(some_addresses()))
        self.assertTrue(all(("m",) + host in [at for at, _, _ in some_addresses()] for host in HOSTS))

    def test_nothing_at_module_level_can_be_changed(self):
        for name, thing in vars(likeness).items():
            if not name.startswith("__"):
                self.assertNotIsInstance(thing, (list, dict, set), name)
