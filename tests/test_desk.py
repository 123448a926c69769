"""desk.py: the lines of a desk and their answers, and what [1] says of every module."""

import copy
import unittest

from jarvisits import desk as desk_module
from jarvisits.browser import Browser
from jarvisits.desk import Desk
from jarvisits.errors import BadSite, BadText, TooMany
from jarvisits.readings import sure
from jarvisits.signing import doubled, stays
from jarvisits.texts import address_text, read_site, site_text
from models import chances, few_keys, some_address, some_site
from things import Unlike, deep, integers, odd_things, refused

TEXT = "\n".join((
    "page https://www.shop.org/in",
    "set id=a1; Domain=shop.org; Secure",
    "set id=b2; Path=/in",
    "set no=c3",
    "page http://shop.org/out",
    "set id=; Domain=shop.org; Path=/; Max-Age=0",
    "page http://www.shop.org/",
    "set no=; Max-Age=0",
))
IN = "https://www.shop.org/in"
ADDRESS = (("www", "shop", "org"), ("in",), True)


def many_keys(many):
    """The text of a SITE with so many unlike KEYs, on PAGEs of five WRITEs."""
    lines = []
    for at, name in enumerate("abcdefghij"[:many]):
        if at % 5 == 0:
            lines.append("page http://shop.org/")
        lines.append(f"set {name}=v")
    return "\n".join(lines)


def state(desk):
    """All that the Browser of a desk shows, with one VISIT after the other taken back, and done again."""
    shown, row = [], desk.browser.row
    while True:
        shown.append((desk.browser.jar, desk.browser.row))
        if not desk.browser.undo():
            break
    for page in row:
        desk.browser.visit(page)
    return shown


class Says(unittest.TestCase):
    """Tests that say lines to one desk after the other."""

    def setUp(self):
        self.desk = Desk(TEXT)

    def says(self, line, wanted):
        found = self.desk.say(line)
        self.assertEqual(found, wanted, line)
        self.assertIs(found.__class__, str)

    def refuses(self, *lines):
        """Each line is answered with no, and changes nothing."""
        for line in lines:
            before = state(self.desk)
            self.says(line, "no")
            self.assertEqual(state(self.desk), before)


class Making(Says):
    def test_the_browser(self):
        self.assertIs(self.desk.browser.__class__, Browser)
        self.assertEqual(self.desk.browser, Browser(read_site(TEXT)))
        self.assertTrue(self.desk.browser is self.desk.browser)
        with self.assertRaises(AttributeError):
            self.desk.browser = Browser(read_site(TEXT))

    def test_the_very_browser(self):
        self.desk.browser.visit(0)
        self.says("row", "0")
        self.says("visit 1", "-")
        self.assertEqual(self.desk.browser.row, (0, 1))
        with self.desk.browser.trial():
            self.says("clear", "done")
            self.says("row", "-")
        self.says("row", "0 1")

    def test_two_desks(self):
        other = Desk(TEXT)
        self.says("visit 0", "-")
        self.assertEqual(other.say("row"), "-")
        self.assertNotEqual(self.desk.browser, other.browser)

    def test_bad_text_of_anything(self):
        for at, thing in enumerate(odd_things() + integers() + [None, True, False, (), read_site(TEXT)]):
            with self.subTest(at=at):
                error = refused(self, BadText, Desk, thing)
                if not isinstance(thing, str):
                    self.assertEqual((error.line, error.place), (-1, -1))
        error = refused(self, BadText, Desk, TEXT + "\n")
        self.assertEqual((error.line, error.place), (8, 0))

    def test_bad_site_then(self):
        self.assertEqual(refused(self, BadSite, Desk, "page http://a.b.c.d.e.f/").place, (0,))
        self.assertEqual(refused(self, BadSite, Desk, "\n".join(["page http://a.b/"] * 6)).place, ())
        self.assertEqual(refused(self, BadSite, Desk, "page http://a.b/\nset a=b; Path=/1/2/3/4/5").place, (0, 0))
        refused(self, BadText, Desk, "\n".join(["page http://a.b/"] * 6 + ["x"]))


class Answers(Says):
    def test_visit(self):
        self.says("visit 0", "-")
        self.says("visit 0", "id=b2; id=a1; no=c3")
        self.says("visit 1", "-")
        self.says("visit 0", "id=b2; no=c3")
        self.says("visit 2", "no=c3")
        self.says("visit 2", "-")
        self.assertEqual(self.desk.browser.row, (0, 0, 1, 0, 2, 2))

    def test_sent(self):
        self.says("sent " + IN, "-")
        self.desk.say("visit 0")
        self.says("sent " + IN, "id=b2; id=a1; no=c3")
        self.says("sent https://shop.org/", "id=a1")
        self.says("sent http://shop.org/", "-")
        self.says("sent http://www.shop.org/in/x/y", "id=b2; no=c3")
        self.says("sent https://a.b.c.shop.org/1/2/3/4", "id=a1")
        self.assertEqual(self.desk.browser.row, (0,))

    def test_read(self):
        self.says(f"read {IN} id", "-")
        self.desk.say("visit 0")
        self.says(f"read {IN} id", "b2")
        self.says("read https://www.shop.org/ id", "a1")
        self.says("read http://www.shop.org/ id", "-")
        self.says(f"read {IN} no", "c3")
        self.says(f"read {IN} x", "-")

    def test_undo(self):
        self.says("undo", "nothing")
        self.desk.say("visit 0")
        self.desk.say("visit 1")
        self.says("undo", "done")
        self.says("row", "0")
        self.says("undo", "done")
        self.says("undo", "nothing")
        self.says("undo", "nothing")

    def test_clear(self):
        self.says("clear", "done")
        self.says("undo", "done")
        self.says("undo", "nothing")
        self.desk.say("visit 0")
        self.says("clear", "done")
        self.says("row", "-")
        self.says("kept", "0")
        self.says("undo", "done")
        self.says("row", "0")
        self.says("kept", "3")

    def test_kept(self):
        self.says("kept", "0")
        self.desk.say("visit 0")
        self.says("kept", "3")
        self.desk.say("visit 1")
        self.says("kept", "2")
        desk = Desk(many_keys(10))
        desk.say("visit 0")
        desk.say("visit 1")
        self.assertEqual(desk.say("kept"), "10")

    def test_row(self):
        self.says("row", "-")
        for page in (0, 2, 2, 1):
            self.desk.say(f"visit {page}")
        self.says("row", "0 2 2 1")

    def test_out(self):
        self.says("out 0 id", "0")
        self.says("out 1 id", "0 1")
        self.says("out 2 id", "0 2")
        self.says("out 0 no", "0")
        self.says("out 1 no", "0 1")
        self.says("out 2 no", "yes")
        self.says("out 1 x", "yes")
        desk = Desk("page http://a.b/\nset a=v\npage http://a.b/\nset a=; Max-Age=0")
        self.assertEqual([desk.say("out 0 a"), desk.say("out 1 a")], ["0", "yes"])

    def test_double(self):
        self.says("double id", "0")
        self.says("double no", "never")
        self.says("double x", "never")
        desk = Desk("page http://a.b/\nset a=v\npage http://a.b/\nset a=w; Domain=a.b")
        self.assertIn(desk.say("double a"), ("0 1", "1 0"))

    def test_sure(self):
        self.says("sure 0 " + IN, "id no")
        self.says("sure 0 http://www.shop.org/", "no")
        self.says("sure 0 http://shop.org/", "-")
        self.says("sure 1 " + IN, "-")
        self.says("sure 2 " + IN, "-")

    def test_questions_change_nothing(self):
        self.desk.say("visit 0")
        before = state(self.desk)
        for line in ("sent " + IN, f"read {IN} id", "kept", "row", "out 1 id", "double id", "sure 0 " + IN):
            self.assertNotEqual(self.desk.say(line), "no")
            self.assertEqual(state(self.desk), before)

    def test_questions_do_not_hang_on_the_row(self):
        for _ in range(3):
            self.says("out 1 id", "0 1")
            self.says("double id", "0")
            self.says("sure 0 " + IN, "id no")
            self.desk.say("visit 0")

    def test_as_the_functions_tell(self):
        for chance in chances(25):
            site = some_site(chance)
            desk, browser = Desk(site_text(site)), Browser(site)
            self.assertEqual(desk.browser, browser)
            for _ in range(6):
                page, address = chance.randrange(len(site)), some_address(chance)
                self.assertEqual(desk.say(f"visit {page}"), self.pairs(browser.visit(page)))
                self.assertEqual(desk.say(f"sent {address_text(address)}"), self.pairs(browser.sent(address)))
                self.assertEqual(desk.say(f"read {address_text(address)} a"), browser.read(address, "a") or "-")
                self.assertEqual(desk.say("kept"), str(len(browser)))
                self.assertEqual(desk.say("row"), self.numbers(browser.row))
            self.check_questions(site, desk, chance)

    def check_questions(self, site, desk, chance):
        page, address = chance.randrange(len(site)), some_address(chance)
        lines = [f"out {page} a", "double a", f"sure {page} {address_text(address)}"]
        if not few_keys(site):
            self.assertEqual([desk.say(line) for line in lines], ["no"] * 3)
            return
        kept, found = stays(site, page, "a"), doubled(site, "a")
        self.assertEqual(len(desk.say(lines[0])), 3 if kept is None else len(self.numbers(kept[0])))
        self.assertEqual(desk.say(lines[0]) == "yes", kept is None)
        self.assertEqual(desk.say(lines[1]), "never" if found is None else self.numbers(found[0]))
        self.assertEqual(desk.say(lines[2]), " ".join(sure(site, page, address)) or "-")

    def pairs(self, pairs):
        return "; ".join(f"{name}={value}" for name, value in pairs) or "-"

    def numbers(self, row):
        return " ".join(str(page) for page in row) or "-"


class Refused(Says):
    GOOD = (
        "visit 0", "sent " + IN, f"read {IN} id", "undo", "clear", "kept", "row", "out 0 id", "double id",
        "sure 0 " + IN,
    )

    def setUp(self):
        super().setUp()
        self.desk.say("visit 0")
        self.desk.say("visit 1")

    def test_the_lines_themselves_are_taken(self):
        for line in self.GOOD:
            self.assertNotEqual(Desk(TEXT).say(line), "no", line)

    def test_the_empty_line(self):
        self.refuses("", " ", "  ", "\n", "-", "x", "no", "done", "help")

    def test_two_spaces(self):
        for line in self.GOOD:
            if " " in line:
                self.refuses(line.replace(" ", "  "), line.replace(" ", "  ", 1), "  ".join(line.rsplit(" ", 1)))

    def test_spaces_at_the_begin_or_the_end(self):
        for line in self.GOOD:
            self.refuses(" " + line, line + " ", " " + line + " ", line + "  ")

    def test_newlines(self):
        for line in self.GOOD:
            self.refuses("\n" + line, line + "\n", line.replace(" ", "\n") if " " in line else line + "\n\n")
            self.refuses(line + "\nundo", "undo\n" + line, line + " \n", line.replace(" ", " \n") + "\n")

    def test_no_space_at_all(self):
        for line in self.GOOD:
            if " " in line:
                self.refuses(line.replace(" ", ""), line.replace(" ", ";"))

    def test_capital_letters(self):
        for line in self.GOOD:
            self.refuses(line.upper(), line.capitalize())
        self.refuses("sent HTTPS://www.shop.org/in", "sent https://WWW.shop.org/in", "double ID", "out 0 Id")

    def test_a_word_too_few_or_too_many(self):
        for line in self.GOOD:
            self.refuses(line + " x", line + " 0", line + " id", line + " " + IN, line + " " + line)
            if " " in line:
                self.refuses(line.rsplit(" ", 1)[0], line.split(" ")[0])

    def test_words_in_another_order(self):
        self.refuses("0 visit", f"read id {IN}", "out id 0", f"sure {IN} 0", IN + " sent", "id double", "id out 0")

    def test_words_that_are_none(self):
        self.refuses("visits 0", "vis 0", "visi 0", "undone", "cleared", "keep", "rows", "outs 0 id", "doubled id",
                     "stays 0 id", "jar", "site", "trial")

    def test_numbers(self):
        numbers = ("00", "01", "10", "3", "4", "5", "9", "-1", "+0", "-0", "0.", "a", "0x", "id", "1 ", "", "0,1",
                   "None", "True", "0\n", "1e0", "0_0", "12345678901234567890")
        for number in numbers:
            self.refuses(f"visit {number}", f"out {number} id", f"sure {number} {IN}")
        self.says("visit 2", "no=c3")

    def test_addresses_written_otherwise(self):
        for text in (
            "www.shop.org/in", "https:/www.shop.org/in", "https://www.shop.org", "https://www.shop.org/in/",
            "https://org/", "https://www..org/", "https://.shop.org/", "https://www.shop.org//in", "http://a.b/ ",
            "https://www.shop.org/in?x", "https://www.shop.org:80/in", "https://abcdefg.org/", "https://a.b/abcdefg",
            "https://www.shop.org/in\n", "httpss://a.b/", "page https://a.b/", "https://a-b.c/", "a", "/", "-",
            "http://a.b/A", "ftp://a.b/",
        ):
            self.refuses(f"sent {text}", f"read {text} id", f"sure 0 {text}")

    def test_addresses_with_too_many_labels_or_segments(self):
        for text in (
            "https://a.b.c.d.e.f/", "https://a.b/1/2/3/4/5", "http://" + "a." * 5_000 + "a/",
            "http://a.b/" + "a/" * 99 + "a",
        ):
            self.refuses(f"sent {text}", f"read {text} id", f"sure 0 {text}")
        for text in ("https://a.b.c.d.e/", "https://a.b/1/2/3/4"):
            self.says(f"sent {text}", "-")
            self.says(f"read {text} id", "-")
            self.says(f"sure 0 {text}", "-")

    def test_names(self):
        for name in ("Id", "i1", "1", "abcdefg", "", "i-d", "id=a1", "-", "id\n", "id;"):
            self.refuses(f"read {IN} {name}", f"out 0 {name}", f"double {name}")
        self.says(f"read {IN} abcdef", "-")

    def test_no_string(self):
        things = odd_things() + integers() + [None, True, False, (), b"undo", ["undo"], ("visit", "0")]
        for at, thing in enumerate(things):
            with self.subTest(at=at):
                self.says(thing, "no")
        self.says("row", "0 1")
        looked = [Unlike(), deep(tuple), deep(list)]
        self.assertEqual([self.desk.say(thing) for thing in looked], ["no"] * 3)

    def test_long_lines(self):
        self.refuses("x" * 20_000, " " * 20_000, "visit " + "0" * 19_000, "undo " * 4_000, "\n" * 20_000)


class ManyKeys(Says):
    def test_more_than_six(self):
        self.desk = Desk(many_keys(7))
        refused(self, TooMany, doubled, self.desk.browser.site, "a")
        self.says("visit 0", "-")
        self.says("visit 1", "a=v; b=v; c=v; d=v; e=v")
        self.refuses("out 0 a", "out 1 x", "double a", "double x", "sure 0 http://shop.org/", "sure 1 http://a.b/")
        self.says("kept", "7")
        self.says("sent http://shop.org/", "a=v; b=v; c=v; d=v; e=v; f=v; g=v")
        self.says("read http://shop.org/ g", "v")
        self.says("row", "0 1")
        self.says("undo", "done")
        self.says("clear", "done")

    def test_six(self):
        self.desk = Desk(many_keys(6))
        self.says("out 0 a", "0")
        self.says("double a", "never")
        self.says("sure 0 http://shop.org/", "a b c d e")


class EveryCall(Says):
    def test_equal_lines_behind_equal_ones(self):
        lines = ("visit 0", "sent " + IN, "visit 1", "undo", "clear", "row", "undo", "out 1 id", "double id", "kept")
        twin = Desk(copy.copy(TEXT))
        for line in lines * 2:
            self.assertEqual(self.desk.say(line), twin.say(line))
        self.assertEqual(self.desk.browser, twin.browser)
        self.assertEqual(self.desk.browser.row, twin.browser.row)

    def test_only_the_table_of_lines_at_module_level(self):
        for name, thing in vars(desk_module).items():
            if not name.startswith("__") and name != "DEEDS":
                self.assertNotIsInstance(thing, (list, dict, set), name)
