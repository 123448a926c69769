"""texts.py: [17], and what [1] says of every module."""

import copy
import unittest

from forms import fault
from jarvisits import texts
from jarvisits.errors import BadQuestion, BadSite, BadText
from jarvisits.sites import need_site
from jarvisits.texts import address_text, read_site, site_text, write_text
from models import chances, some_address, some_site, some_write
from things import Unlike, deep, integers, odd_things, refused, replaced

HOST = ("www", "shop", "org")
SHOP = ("shop", "org")
ADDRESS = (HOST, ("in",), True)
PAGE_LINE = "page https://www.shop.org/in"
# The PAGE of the example of point [6], and what is its written form.
EXAMPLE = (ADDRESS, (("id", "a1", SHOP, None, True), ("id", "b2", None, ("in",), False)))
EXAMPLE_TEXT = PAGE_LINE + "\nset id=a1; Domain=shop.org; Secure\nset id=b2; Path=/in"
WRITE_FORMS = (
    (("id", "a1", None, None, False), "id=a1"),
    (("id", "a1", None, None, True), "id=a1; Secure"),
    (("id", "a1", None, ("in", "x"), False), "id=a1; Path=/in/x"),
    (("id", "a1", None, ("in", "x"), True), "id=a1; Path=/in/x; Secure"),
    (("id", "a1", SHOP, None, False), "id=a1; Domain=shop.org"),
    (("id", "a1", SHOP, None, True), "id=a1; Domain=shop.org; Secure"),
    (("id", "a1", SHOP, ("in",), False), "id=a1; Domain=shop.org; Path=/in"),
    (("id", "a1", SHOP, ("in",), True), "id=a1; Domain=shop.org; Path=/in; Secure"),
    (("id", None, None, None, False), "id=; Max-Age=0"),
    (("id", None, None, None, True), "id=; Secure; Max-Age=0"),
    (("id", None, None, ("in",), False), "id=; Path=/in; Max-Age=0"),
    (("id", None, None, ("in",), True), "id=; Path=/in; Secure; Max-Age=0"),
    (("id", None, SHOP, None, False), "id=; Domain=shop.org; Max-Age=0"),
    (("id", None, SHOP, None, True), "id=; Domain=shop.org; Secure; Max-Age=0"),
    (("id", None, HOST, ("in",), False), "id=; Domain=www.shop.org; Path=/in; Max-Age=0"),
    (("id", None, HOST, ("in",), True), "id=; Domain=www.shop.org; Path=/in; Secure; Max-Age=0"),
    (("a", "0", None, (), False), "a=0; Path=/"),
    (("a", None, None, (), False), "a=; Path=/; Max-Age=0"),
    (("abcdef", "012345", ("a",) * 5, ("b",) * 4, False), "abcdef=012345; Domain=a.a.a.a.a; Path=/b/b/b/b"),
)
ADDRESS_FORMS = (
    (ADDRESS, "https://www.shop.org/in"),
    ((HOST, ("in",), False), "http://www.shop.org/in"),
    ((SHOP, (), True), "https://shop.org/"),
    ((SHOP, (), False), "http://shop.org/"),
    ((("a", "b", "c", "d", "e"), ("1", "2", "3", "4"), False), "http://a.b.c.d.e/1/2/3/4"),
    ((("abcdef", "012345"), ("xyz789",), True), "https://abcdef.012345/xyz789"),
    ((("http", "https"), ("http",), True), "https://http.https/http"),
)


class Writes(unittest.TestCase):
    def test_each_form(self):
        for write, text in WRITE_FORMS:
            self.assertEqual(write_text(write), text)

    def test_of_a_write_that_no_page_takes(self):
        self.assertEqual(write_text(("no", "z", ("far", "net"), (), True)), "no=z; Domain=far.net; Path=/; Secure")

    def test_refused(self):
        write = ("id", "a1", SHOP, ("in",), True)
        for thing in (write[:4], write + (True,), list(write), "id=a1", EXAMPLE, ADDRESS, (write,), None, (), True):
            refused(self, BadQuestion, write_text, thing)

    def test_anything(self):
        write = ("id", "a1", SHOP, ("in",), True)
        for at, thing in enumerate(odd_things() + integers() + [None, True, False, ()]):
            with self.subTest(at=at):
                self.assertNotEqual(str(refused(self, BadQuestion, write_text, thing)), "")
        for at, thing in enumerate(odd_things() + integers()):
            with self.subTest(at=at):
                for part in range(5):
                    refused(self, BadQuestion, write_text, replaced(write, part, thing))


class Addresses(unittest.TestCase):
    def test_each_form(self):
        for address, text in ADDRESS_FORMS:
            self.assertEqual(address_text(address), text)

    def test_refused(self):
        things = (ADDRESS[:2], ADDRESS + (True,), list(ADDRESS), "https://www.shop.org/in", HOST, EXAMPLE, (ADDRESS,))
        for thing in things + (None, (), True, (("org",), (), True), (("a",) * 6, (), True), (HOST, ("a",) * 5, True)):
            refused(self, BadQuestion, address_text, thing)

    def test_anything(self):
        for at, thing in enumerate(odd_things() + integers() + [None, True, False, ()]):
            with self.subTest(at=at):
                self.assertNotEqual(str(refused(self, BadQuestion, address_text, thing)), "")
        for at, thing in enumerate(odd_things() + integers() + [None]):
            with self.subTest(at=at):
                for part in range(3):
                    refused(self, BadQuestion, address_text, replaced(ADDRESS, part, thing))


class Sites(unittest.TestCase):
    def test_the_example(self):
        self.assertEqual(site_text((EXAMPLE,)), EXAMPLE_TEXT)
        self.assertEqual(read_site(EXAMPLE_TEXT), (EXAMPLE,))

    def test_pages_stand_one_behind_the_other(self):
        site = (EXAMPLE, ((SHOP, (), False), ()), EXAMPLE)
        text = EXAMPLE_TEXT + "\npage http://shop.org/\n" + EXAMPLE_TEXT
        self.assertEqual(site_text(site), text)
        self.assertEqual(read_site(text), site)

    def test_a_page_without_writes(self):
        self.assertEqual(site_text(((ADDRESS, ()),)), PAGE_LINE)
        self.assertEqual(read_site(PAGE_LINE), ((ADDRESS, ()),))

    def test_each_form_of_a_write(self):
        for write, text in WRITE_FORMS:
            self.assertEqual(site_text(((ADDRESS, (write,)),)), f"{PAGE_LINE}\nset {text}")
            self.assertEqual(read_site(f"{PAGE_LINE}\nset {text}"), ((ADDRESS, (write,)),))

    def test_each_form_of_an_address(self):
        for address, text in ADDRESS_FORMS:
            self.assertEqual(site_text(((address, ()),)), f"page {text}")
            self.assertEqual(read_site(f"page {text}"), ((address, ()),))

    def test_kinds_of_what_is_read(self):
        site = read_site(EXAMPLE_TEXT + "\nset no=; Path=/; Max-Age=0")
        self.assertTrue(need_site(site) is site)
        (address, writes), = site
        self.assertIs(address[2], True)
        self.assertEqual([write[4] for write in writes], [True, False, False])
        self.assertTrue(all(write[4].__class__ is bool for write in writes))
        self.assertIsNone(writes[2][1])
        self.assertEqual(writes[2][3], ())

    def test_the_very_site(self):
        for chance in chances(300):
            site = some_site(chance)
            text = site_text(site)
            self.assertIsNone(fault(text))
            self.assertEqual(read_site(text), site)
            self.assertEqual(site_text(read_site(text)), text)

    def test_five_pages_of_five_writes(self):
        site = ((ADDRESS, (WRITE_FORMS[0][0],) * 5),) * 5
        self.assertEqual(read_site(site_text(site)), site)
        self.assertEqual(site_text(site).count("\n"), 29)

    def test_bad_site_of_anything(self):
        for at, thing in enumerate(odd_things() + integers() + [None, True, False, ()]):
            with self.subTest(at=at):
                refused(self, BadSite, site_text, thing)
        self.assertEqual(refused(self, BadSite, site_text, (EXAMPLE, (ADDRESS, (None,)))).place, (1, 0))
        self.assertEqual(refused(self, BadSite, site_text, ()).place, ())


class NoForms(unittest.TestCase):
    def bad(self, text, line, place):
        error = refused(self, BadText, read_site, text)
        self.assertEqual((error.line, error.place), (line, place), text)

    def bad_set(self, text, place):
        """A line that cannot stand behind the line of an ADDRESS, and what stands in this place of it."""
        self.bad(f"{PAGE_LINE}\n{text}", 1, place)
        self.bad(f"{PAGE_LINE}\nset a=b\n{text}\nset =\nx", 2, place)

    def bad_page(self, text, place):
        self.bad(text, 0, place)
        self.bad(f"{text}\n{PAGE_LINE}", 0, place)
        self.bad(f"{PAGE_LINE}\n{text}", 1, place)
        self.bad(f"{EXAMPLE_TEXT}\n{text}\nx", 3, place)

    def test_no_string(self):
        things = odd_things() + integers() + [None, True, False, (), (EXAMPLE,), EXAMPLE_TEXT.encode()]
        for at, thing in enumerate(things):
            with self.subTest(at=at):
                if not isinstance(thing, str):
                    error = refused(self, BadText, read_site, thing)
                    self.assertEqual((error.line, error.place), (-1, -1))

    def test_empty(self):
        self.bad("", 0, 0)

    def test_empty_lines(self):
        self.bad("\n", 0, 0)
        self.bad("\n" + PAGE_LINE, 0, 0)
        self.bad(PAGE_LINE + "\n", 1, 0)
        self.bad(PAGE_LINE + "\n\n" + PAGE_LINE, 1, 0)
        self.bad(EXAMPLE_TEXT + "\n", 3, 0)
        self.bad(EXAMPLE_TEXT + "\n\nset a=b", 3, 0)
        self.bad("\n" * 20_000, 0, 0)

    def test_writes_ahead_of_any_page(self):
        for text in ("s", "se", "set", "set ", "set id=a1", "set id=a1\n" + PAGE_LINE):
            self.bad(text, 0, 0)

    def test_words_at_the_begin(self):
        for text, place in (
            ("x", 0), (" page http://a.b/", 0), ("Page http://a.b/", 0), ("https://a.b/", 0), ("p", 1), ("pa", 2),
            ("pax", 2), ("page", 4), ("page\t", 4), ("pagehttp://a.b/", 4), ("pages", 4), ("page  http://a.b/", 5),
        ):
            self.bad_page(text, place)
        for text, place in (
            ("s", 1), ("se", 2), ("set", 3), ("set ", 4), ("setid=a", 3), ("set  id=a", 4), ("sat id=a", 1),
            ("Set id=a", 0), ("-", 0), ("id=a", 0), (" set id=a", 0), ("set-", 3),
        ):
            self.bad_set(text, place)

    def test_schemes(self):
        for text, place in (
            ("page ", 5), ("page h", 6), ("page http", 9), ("page httpx", 9), ("page https", 10), ("page httpss", 10),
            ("page http:", 10), ("page https:/", 12), ("page http:a", 10), ("page http://", 12), ("page https://", 13),
            ("page ftp://a.b/", 5), ("page HTTP://a.b/", 5), ("page http:///", 12), ("page https//a.b/", 10),
        ):
            self.bad_page(text, place)

    def test_hosts(self):
        for text, place in (
            ("page http://a", 13), ("page http://a/", 13), ("page http://abcdef", 18), ("page http://abcdefg.b/", 18),
            ("page http://a.", 14), ("page http://a./", 14), ("page http://a..b/", 14), ("page http://.a.b/", 12),
            ("page http://a.b", 15), ("page http://a.b.", 16), ("page http://a.b./", 16), ("page http://A.b/", 12),
            ("page http://a.bC/", 15), ("page http://a-b.c/", 13), ("page http://a.b:8/", 15),
            ("page http://a b.c/", 13),
            ("page http://a.abcdefg/", 20), ("page http://a.b;", 15), ("page http://a.b.c.d.e.f", 23),
        ):
            self.bad_page(text, place)

    def test_paths(self):
        for text, place in (
            ("page http://a.b//", 16), ("page http://a.b/in/", 19), ("page http://a.b/in//x", 19),
            ("page http://a.b/abcdefg", 22), ("page http://a.b/In", 16), ("page http://a.b/ ", 16),
            ("page http://a.b/in ", 18), ("page http://a.b/in.x", 18), ("page http://a.b/in;", 18),
            ("page http://a.b/;", 16),
            ("page http://a.b/a/b/c/d/e/", 26), ("page http://a.b/in=", 18), ("page http://a.b/in; Secure", 18),
        ):
            self.bad_page(text, place)

    def test_names(self):
        for text, place in (
            ("set =a", 4), ("set a", 5), ("set abcdef", 10), ("set abcdefg=1", 10), ("set i1=a", 5), ("set 1=a", 4),
            ("set A=a", 4), ("set a b=c", 5), ("set a;", 5), ("set a-=c", 5), ("set ; Secure", 4),
        ):
            self.bad_set(text, place)

    def test_values(self):
        for text, place in (
            ("set a=", 6), ("set a=abcdefg", 12), ("set a=0123456", 12), ("set a=A", 6), ("set a= ", 6), ("set a==", 6),
            ("set a=b ", 7), ("set a=b c", 7), ("set a=b-", 7), ("set a=-", 6), ("set a=b=", 7), ("set a=abcdef;", 13),
        ):
            self.bad_set(text, place)

    def test_parts(self):
        for text, place in (
            ("set a=b;", 8), ("set a=b; ", 9), ("set a=b;D", 8), ("set a=b;  Secure", 9), ("set a=b; X", 9),
            ("set a=b; secure", 9), ("set a=b; D", 10), ("set a=b; Domain", 15), ("set a=b; Domain=", 16),
            ("set a=b; Domain;", 15), ("set a=b; Domain=x", 17), ("set a=b; Domain=x;", 17), ("set a=b; Domain=x.", 18),
            ("set a=b; Domain=x.y;", 20), ("set a=b; Domain=x.y; ", 21), ("set a=b; Domain=x.y/", 19),
            ("set a=b; Domain=x.y; Domain=x.y", 21), ("set a=b; Domain=x.y; X", 21), ("set a=b; Path", 13),
            ("set a=b; Path=", 14), ("set a=b; Path=x", 14), ("set a=b; Path=;", 14), ("set a=b; Path=/;", 16),
            ("set a=b; Path=/x/", 17), ("set a=b; Path=/x/;", 17), ("set a=b; Path=/; Path=/", 17),
            ("set a=b; Path=/; Domain=x.y", 17), ("set a=b; Path=/; X", 17), ("set a=b; Path=/x;", 17),
            ("set a=b; Path=//", 15), ("set a=b; S", 10), ("set a=b; Secur", 14), ("set a=b; Securex", 15),
            ("set a=b; Secure;", 15), ("set a=b; Secure; ", 15), ("set a=b; Secure; Secure", 15),
            ("set a=b; Secure; Path=/", 15), ("set a=b; Secure ", 15), ("set a=b; P; Secure", 10),
        ):
            self.bad_set(text, place)

    def test_max_age(self):
        for text, place in (
            ("set id=; Secure", 15), ("set id=", 7), ("set id=;", 8), ("set id=; ", 9), ("set id=;M", 8),
            ("set id=; Domain=a.b", 19), ("set id=; Path=/", 15), ("set id=; Path=/in", 17), ("set id=; M", 10),
            ("set id=; Max-Age", 16), ("set id=; Max-Age=", 17), ("set id=; Max-Age=1", 17),
            ("set id=; Max-Age=00", 18),
            ("set id=; Max-Age=0;", 18), ("set id=; Max-Age=0; Secure", 18), ("set id=; Max-Age=0 ", 18),
            ("set id=; Secure;", 16), ("set id=; Secure; ", 17), ("set id=; Secure; S", 17),
            ("set id=; Secure; Path=/", 17),
            ("set id=; Path=/; D", 17), ("set id=; Domain=a.b; D", 21), ("set id=; X", 9), ("set id=; max", 9),
            ("set id=a; Max-Age=0", 10), ("set id=a; M", 10), ("set id=a; Secure; Max-Age=0", 16),
            ("set id=a; Path=/; Max-Age=0", 18), ("set id=a; Domain=a.b; Max-Age=0", 22), ("set id=Max-Age=0", 7),
        ):
            self.bad_set(text, place)

    def test_the_first_line_at_fault(self):
        self.bad(f"{PAGE_LINE}\nset a=b\nset a=\nset =", 2, 6)
        self.bad(f"{PAGE_LINE}x!\n", 0, len(PAGE_LINE) + 1)
        self.bad(f"{PAGE_LINE}\n{PAGE_LINE}/\nset a=b", 1, len(PAGE_LINE) + 1)

    def test_of_all_sorts(self):
        signs = " ;=./:-abps07SDPM\n"
        for chance in chances(400):
            text = site_text(some_site(chance, 3, 3))
            for _ in range(12):
                at, fewer = chance.randint(0, len(text)), chance.randint(0, 2)
                more = "".join(chance.choice(signs) for _ in range(chance.randint(0, 2)))
                changed = text[:at] + more + text[at + fewer:]
                wanted = fault(changed)
                try:
                    read_site(changed)
                    found = None
                except BadSite:
                    found = None
                except BadText as error:
                    found = (error.line, error.place)
                self.assertEqual(found, wanted, changed)

    def test_cut_off_anywhere(self):
        for write, form in WRITE_FORMS:
            text = f"{PAGE_LINE}\nset {form}\npage http://a.b/c"
            for at in range(len(text)):
                wanted = fault(text[:at])
                if wanted is None:
                    self.assertTrue(text.startswith(site_text(read_site(text[:at]))))
                else:
                    self.bad(text[:at], *wanted)

    def test_long_texts(self):
        self.bad("page http://" + "a." * 9_990, 0, 12 + 2 * 9_990)
        self.bad("page http://a.b/" + "a/" * 9_990, 0, 16 + 2 * 9_990)
        self.bad("x" * 20_000, 0, 0)
        self.bad(PAGE_LINE + "\nset a=b" * 2_000 + "x!", 2_000, 8)


class FormsOfNoSites(unittest.TestCase):
    def bad(self, text, place):
        self.assertIsNone(fault(text))
        self.assertEqual(refused(self, BadSite, read_site, text).place, place)

    def test_labels_and_segments_of_addresses(self):
        self.bad("page http://a.b.c.d.e.f/", (0,))
        self.bad("page http://a.b/1/2/3/4/5", (0,))
        self.bad(EXAMPLE_TEXT + "\npage http://a.b.c.d.e.f/\nset a=b", (1,))
        self.bad("page http://" + "a." * 5_000 + "a/" + "a/" * 4_000 + "a", (0,))

    def test_labels_and_segments_of_writes(self):
        self.bad(EXAMPLE_TEXT + "\nset a=b; Domain=a.b.c.d.e.f", (0, 2))
        self.bad(EXAMPLE_TEXT + "\nset a=b; Path=/a/b/c/d/e", (0, 2))
        self.bad(EXAMPLE_TEXT + "\npage http://a.b/\nset a=; Path=/a/b/c/d/e; Max-Age=0", (1, 0))

    def test_six_writes(self):
        self.bad(PAGE_LINE + "\nset a=b" * 6, (0,))
        self.bad(PAGE_LINE + "\n" + PAGE_LINE + "\nset a=b" * 6, (1,))
        self.bad(PAGE_LINE + "\nset a=b" * 2_000, (0,))

    def test_six_pages(self):
        self.bad("\n".join([PAGE_LINE] * 6), ())
        self.bad("\n".join([EXAMPLE_TEXT] * 300), ())
        self.bad("\n".join(["page http://a.b.c.d.e.f/"] * 6), ())

    def test_the_first_page_at_fault(self):
        self.bad(PAGE_LINE + "\nset a=b; Domain=a.b.c.d.e.f\npage http://a.b.c.d.e.f/", (0, 0))
        self.bad("page http://a.b.c.d.e.f/\nset a=b; Domain=a.b.c.d.e.f", (0,))

    def test_bad_text_ahead_of_bad_site(self):
        for text in (
            "page http://a.b.c.d.e.f/\nset a=", "\n".join([PAGE_LINE] * 6) + "\n", PAGE_LINE + "\nset a=b" * 6 + "\nx",
            PAGE_LINE + "\nset a=b; Domain=a.b.c.d.e.f\nset a=b;",
        ):
            error = refused(self, BadText, read_site, text)
            self.assertEqual((error.line, error.place), fault(text))
            self.assertEqual(error.line, text.count("\n"))


class EveryCall(unittest.TestCase):
    def test_equal_calls_return_equal_results(self):
        for chance in chances(20):
            site, write, address = some_site(chance), some_write(chance), some_address(chance)
            twins = copy.deepcopy((site, write, address))
            for _ in range(2):
                self.assertEqual(site_text(site), site_text(twins[0]))
                self.assertEqual(write_text(write), write_text(twins[1]))
                self.assertEqual(address_text(address), address_text(twins[2]))
                self.assertEqual(read_site(site_text(site)), twins[0])
            self.assertEqual((site, write, address), twins)

    def test_strings(self):
        for call, thing in ((site_text, (EXAMPLE,)), (write_text, EXAMPLE[1][0]), (address_text, ADDRESS)):
            self.assertIs(call(thing).__class__, str)

    def test_things_that_cannot_be_asked_anything(self):
        for thing in (Unlike(), deep(tuple), deep(list)):
            refused(self, BadText, read_site, thing)
            refused(self, BadSite, site_text, thing)

    def test_nothing_at_module_level_can_be_changed(self):
        for name, thing in vars(texts).items():
            if not name.startswith("__"):
                self.assertNotIsInstance(thing, (list, dict, set), name)
