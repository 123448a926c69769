"""addresses.py: [2], and of [1] what "of anything" means."""

import unittest

from jarvisits.addresses import is_address, is_below, is_host, is_path, is_within
from things import Unlike, deep, integers, odd_things

WORDS = ["a", "z", "0", "9", "abc012", "zzzzzz", "000000", "m5"]
NO_WORDS = [
    "", "abcdefg", "0123456", "`", "{", "/", ":", "a`", "{a", "0/", ":9", "A", "Z", "aB", "@", "[",
    " ", "a ", " a", "a b", "\n", "a\n", "\na", "-", "_", "a-b", "a.b", ".", "abcdef\n", "x" * 20_000,
    b"a", b"abc", ["a"], ("a",), ("a", "b"), {"a": 1}, {"a"}, None, True, False, 0, 1, 10 ** 5000,
    Unlike(), deep(tuple), deep(list), object(), len,
]
HOST = ("www", "shop", "org")
PATH = ("in", "now")


class Tellers(unittest.TestCase):
    def told(self, teller, thing, wanted):
        told = teller(thing)
        self.assertIs(told, wanted)
        self.assertIs(teller(thing), told)


class Hosts(Tellers):
    def test_two_to_five_labels(self):
        for many in range(8):
            self.told(is_host, ("a",) * many, 2 <= many <= 5)

    def test_the_one_of_the_document(self):
        self.told(is_host, ("www", "shop", "org"), True)

    def test_each_label(self):
        for word in WORDS:
            self.told(is_host, (word, "org"), True)
            self.told(is_host, ("org", word), True)
            self.told(is_host, ("a", "b", "c", "d", word), True)
        for at, word in enumerate(NO_WORDS):
            with self.subTest(at=at):
                self.told(is_host, (word, "org"), False)
                self.told(is_host, ("org", word), False)
                self.told(is_host, ("a", "b", word, "d", "e"), False)

    def test_one_to_six_signs(self):
        for many in range(9):
            self.told(is_host, ("a" * many, "b"), 1 <= many <= 6)
            self.told(is_host, ("b", "9" * many), 1 <= many <= 6)

    def test_each_sign_of_the_first_128(self):
        for code in range(128):
            sign = chr(code)
            wanted = "a" <= sign <= "z" or "0" <= sign <= "9"
            self.told(is_host, (sign, "b"), wanted)
            self.told(is_path, (sign,), wanted)

    def test_other_kinds(self):
        for thing in (["a", "b"], "ab", "a.b", {"a": 1, "b": 2}, {"a", "b"}, (("a", "b"), "c"), b"ab"):
            self.told(is_host, thing, False)

    def test_anything(self):
        for at, thing in enumerate(odd_things() + integers() + [None, True, False, ()]):
            with self.subTest(at=at):
                self.told(is_host, thing, False)


class Paths(Tellers):
    def test_none_to_four_segments(self):
        for many in range(8):
            self.told(is_path, ("a",) * many, many <= 4)

    def test_each_segment(self):
        for word in WORDS:
            self.told(is_path, (word,), True)
            self.told(is_path, ("a", "b", "c", word), True)
        for at, word in enumerate(NO_WORDS):
            with self.subTest(at=at):
                self.told(is_path, (word,), False)
                self.told(is_path, ("a", word, "c", "d"), False)
                self.told(is_path, ("a", "b", "c", word), False)

    def test_one_to_six_signs(self):
        for many in range(9):
            self.told(is_path, ("a" * many,), 1 <= many <= 6)

    def test_other_kinds(self):
        for thing in ([], ["a"], "", "a", "/a", {}, {"a": 1}, set(), {"a"}, frozenset(), b""):
            self.told(is_path, thing, False)

    def test_anything(self):
        for at, thing in enumerate(odd_things() + integers() + [None, True, False]):
            with self.subTest(at=at):
                self.told(is_path, thing, False)


class Addresses(Tellers):
    def test_addresses(self):
        for secure in (True, False):
            self.told(is_address, (HOST, PATH, secure), True)
            self.told(is_address, (("a", "b"), (), secure), True)
            self.told(is_address, (("a",) * 5, ("b",) * 4, secure), True)

    def test_secure_is_true_or_false_alone(self):
        for at, thing in enumerate(odd_things() + integers() + [None, ()]):
            with self.subTest(at=at):
                self.told(is_address, (HOST, PATH, thing), False)

    def test_bounds_of_its_parts(self):
        for host in (("a",), ("a",) * 6, ("abcdefg", "b"), ("", "b"), ("A", "b"), list(HOST)):
            self.told(is_address, (host, PATH, True), False)
        for path in (("a",) * 5, ("abcdefg",), ("",), ("A",), list(PATH), None):
            self.told(is_address, (HOST, path, True), False)

    def test_anything_in_its_parts(self):
        for at, thing in enumerate(odd_things() + integers() + [None, True, False]):
            with self.subTest(at=at):
                self.told(is_address, (thing, PATH, True), False)
                self.told(is_address, (HOST, thing, True), False)
        self.told(is_address, ((), PATH, True), False)

    def test_three_things_in_a_tuple(self):
        whole = (HOST, PATH, True)
        turned = ((PATH, HOST, ()), (PATH, HOST, True)[::-1])
        for thing in ((), whole[:1], whole[:2], whole + (True,), list(whole)) + turned:
            self.told(is_address, thing, False)

    def test_anything(self):
        for at, thing in enumerate(odd_things() + integers() + [None, True, False, (), HOST, PATH]):
            with self.subTest(at=at):
                self.told(is_address, thing, False)

    def test_lists_are_not_changed(self):
        thing = (["a", "b"], ["c"], True)
        self.told(is_address, thing, False)
        self.assertEqual(thing, (["a", "b"], ["c"], True))


class Within(unittest.TestCase):
    def test_itself(self):
        for host in (("a", "b"), HOST, ("a",) * 5):
            self.assertIs(is_within(host, host), True)
            self.assertIs(is_within(host, tuple(list(host))), True)

    def test_near_and_far(self):
        whole = ("a", "b", "c", "d", "e")
        for many in (2, 3, 4):
            self.assertIs(is_within(whole, whole[-many:]), True)
            self.assertIs(is_within(whole[-many:], whole), False)
            self.assertIs(is_within(whole, whole[:many]), False)
        self.assertIs(is_within(HOST, ("shop", "org")), True)
        self.assertIs(is_within(("shop", "org"), HOST), False)

    def test_labels_are_taken_whole(self):
        self.assertIs(is_within(("myshop", "org"), ("shop", "org")), False)
        self.assertIs(is_within(("www", "myshop", "org"), ("shop", "org")), False)
        self.assertIs(is_within(("a", "b", "cd"), ("b", "c")), False)

    def test_the_last_labels_count(self):
        self.assertIs(is_within(("shop", "org", "www"), ("shop", "org")), False)
        self.assertIs(is_within(("shop", "org", "com"), ("org", "shop")), False)
        self.assertIs(is_within(("x", "org"), ("shop", "org")), False)
        self.assertIs(is_within(("shop", "x", "org"), ("shop", "org")), False)
        self.assertIs(is_within(("a", "a", "a"), ("a", "a")), True)


class Below(unittest.TestCase):
    def test_itself_and_the_empty_one(self):
        for path in ((), ("a",), PATH, ("a",) * 4):
            self.assertIs(is_below(path, path), True)
            self.assertIs(is_below(path, tuple(list(path))), True)
            self.assertIs(is_below(path, ()), True)

    def test_near_and_far(self):
        whole = ("a", "b", "c", "d")
        for many in (1, 2, 3):
            self.assertIs(is_below(whole, whole[:many]), True)
            self.assertIs(is_below(whole[:many], whole), False)
            self.assertIs(is_below(whole, whole[-many:]), False)
        self.assertIs(is_below((), whole), False)

    def test_segments_are_taken_whole(self):
        self.assertIs(is_below(("inn",), ("in",)), False)
        self.assertIs(is_below(("in", "x"), ("i",)), False)
        self.assertIs(is_below(("in",), ("inn",)), False)

    def test_unlike_ones(self):
        self.assertIs(is_below(("a", "c"), ("a", "b")), False)
        self.assertIs(is_below(("b", "a"), ("a",)), False)
