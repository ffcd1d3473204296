"""Points 2, 3 and 77: texts of deeds."""

import random
import re
import unittest

from forkedshelves.errors import BadText
from forkedshelves.lines import deed_text, read_deed
from tests.helpers import WatchedCase

DEEDS = {
    "fork side main": ("fork", "side", "main"),
    "fork a a": ("fork", "a", "a"),
    "drop main": ("drop", "main"),
    "write main 1=5": ("write", "main", {1: 5}),
    "write main 0=0,7=12,10=999999,255=1": ("write", "main", {0: 0, 7: 12, 10: 999999, 255: 1}),
    "write main *": ("write", "main", {}),
    "merge main side *": ("merge", "main", ["side"], {}),
    "merge main side,main,b,side 1=5,2=0": ("merge", "main", ["side", "main", "b", "side"], {1: 5, 2: 0}),
    "settle main side": ("settle", "main", "side"),
    "settle a a": ("settle", "a", "a"),
    "carry main side *": ("carry", "main", "side", []),
    "carry main side 3": ("carry", "main", "side", [3]),
    "carry main side 0,3,20,100": ("carry", "main", "side", [0, 3, 20, 100]),
    "prefer 1=4 2=4": ("prefer", (1, 4), (2, 4)),
    "prefer 0=0 0=0": ("prefer", (0, 0), (0, 0)),
    "forget 200=0 3=999999": ("forget", (200, 0), (3, 999999)),
    "write abcdefghijklmnopqrst *": ("write", "abcdefghijklmnopqrst", {}),
    "drop write": ("drop", "write"),
}
NAME, NUMBER = "[a-z]{1,20}", "(?:0|[1-9][0-9]{0,5})"
MARK = f"{NUMBER}={NUMBER}"
WRITES, NAMES, PLACES = (f"(?:[*]|{MARK}(?:,{MARK})*)", f"{NAME}(?:,{NAME})*", f"(?:[*]|{NUMBER}(?:,{NUMBER})*)")
FORM = "|".join([f"fork {NAME} {NAME}", f"drop {NAME}", f"write {NAME} {WRITES}", f"merge {NAME} {NAMES} {WRITES}",
                 f"settle {NAME} {NAME}", f"carry {NAME} {NAME} {PLACES}", f"prefer {MARK} {MARK}",
                 f"forget {MARK} {MARK}"])


def is_text(text):
    """Whether a text is that of a deed, by the form of point 77."""
    if not re.fullmatch(FORM, text) or text.endswith("\n"):
        return False
    if text.split()[0] in ("write", "merge", "carry"):
        places = [int(part.split("=")[0]) for part in text.split()[-1].split(",") if part != "*"]
        return places == sorted(set(places))
    return True


class DeedTextTest(WatchedCase):
    def test_each_word(self):
        for text, deed in DEEDS.items():
            self.check(text, deed_text, deed)

    def test_writes_are_ordered_by_their_places(self):
        self.check("write main 2=5,10=1,100=0", deed_text, ("write", "main", {100: 0, 2: 5, 10: 1}))
        self.check("merge main b,a 2=5,10=1", deed_text, ("merge", "main", ["b", "a"], {10: 1, 2: 5}))

    def test_places_with_duplicates_are_left_out(self):
        self.check("carry main side 2,10,100", deed_text, ("carry", "main", "side", [100, 2, 2, 10, 100]))

    def test_names_are_not_ordered(self):
        self.check("merge a c,b,c *", deed_text, ("merge", "a", ["c", "b", "c"], {}))


class ReadDeedTest(WatchedCase):
    def reject(self, *texts):
        for text in texts:
            self.refuse(BadText, {}, read_deed, text)

    def test_each_word(self):
        for text, deed in DEEDS.items():
            self.check(deed, read_deed, text)
            self.assertEqual([type(part) for part in read_deed(text)], [type(part) for part in deed])

    def test_the_empty_text_and_blanks(self):
        self.reject("", " ", "  ", "\n", "\t", "*", ",", "=")

    def test_other_words(self):
        self.reject("undo", "redo", "attempt", "book main", "Fork a b", "forks a b", "fork", "fork ", "drop", "journal",
                    "writes a *", "fork\ta\tb", "prefers 1=1 2=2", "DROP a", "start")

    def test_too_few_and_too_many_words(self):
        for text in DEEDS:
            words = text.split(" ")
            self.reject(" ".join(words[:-1]), text + " a", text + " *", text + " 1=1", words[0])

    def test_spaces_tabs_and_line_feeds(self):
        for text in DEEDS:
            self.reject(text + " ", " " + text, text + "\n", "\n" + text, text + "\t", "\t" + text, text + "\n\n",
                        text.replace(" ", "  "), text.replace(" ", "\t"), text.replace(" ", "\n"),
                        text.replace(" ", " \n", 1), text.replace(" ", "\n ", 1))

    def test_names(self):
        long = "abcdefghijklmnopqrstu"
        self.assertEqual(len(long), 21)
        for name in ("", long, long * 3, "Main", "mAin", "main1", "ma_in", "ma-in", "1", "*", "ma.in", "main,", "{", "`",
                     "ma\tin", "ma\nin", "[", "@", "a=b"):
            self.reject(f"drop {name}", f"fork {name} main", f"fork main {name}", f"write {name} *", f"merge {name} a *",
                        f"settle {name} a", f"settle a {name}", f"carry {name} a *", f"carry a {name} *")
        self.reject("drop a,b", "fork a,b c", "settle a b,c", "write a,b *", "carry a b,c *", "merge a,b c *")

    def test_lists_of_names(self):
        self.reject("merge a * *", "merge a  *", "merge a , *", "merge a b, *", "merge a ,b *", "merge a b,,c *",
                    "merge a b;c *", "merge a b, c *", "merge a b,C *", f"merge a b,{'x' * 21} *", "merge a 1 *")
        self.assertEqual(read_deed(f"merge a b,{'x' * 20} *"), ("merge", "a", ["b", "x" * 20], {}))

    def test_numbers(self):
        for number in ("", "-1", "+1", "01", "00", "000000", "1000000", "0000001", "1.0", "1e3", "0x1", "1_0", "a", "*",
                       "-0", "+0", "1\n", "\t1", "9999999", "12345678901234567890"):
            self.reject(f"prefer {number}=1 2=2", f"prefer 1={number} 2=2", f"forget 1=1 {number}=2",
                        f"forget 1=1 2={number}", f"write a {number}=1", f"write a 1={number}",
                        f"merge a b {number}=1", f"merge a b 1={number}", f"merge a b 1=1,{number}=9", f"carry a b 1,{number}")
            if number != "*":
                self.reject(f"carry a b {number}")
        self.assertEqual(read_deed("carry a b 0,999999"), ("carry", "a", "b", [0, 999999]))
        self.assertEqual(read_deed("write a 999999=100000"), ("write", "a", {999999: 100000}))

    def test_digits_of_other_scripts_are_none(self):
        for digit in ("\u0663", "\u00b2", "\uff11"):
            self.reject(f"carry a b {digit}", f"prefer {digit}=1 1=1", f"write a 1={digit}")

    def test_marks(self):
        self.reject("prefer 1 2=2", "prefer 1= 2=2", "prefer =1 2=2", "prefer 1=1=1 2=2", "prefer 1==1 2=2",
                    "prefer 1=1,2=2 3=3", "prefer * 2=2", "prefer 1=1 *", "prefer 1:1 2=2", "prefer (1,1) (2,2)",
                    "forget 1=1,2=2", "forget 1=1")

    def test_writes(self):
        self.reject("write a 2=1,1=1", "write a 1=1,1=2", "write a 1=1,1=1", "write a 1=1,", "write a ,1=1", "write a ,",
                    "write a *,1=1", "write a 1=1,*", "write a **", "write a 1", "write a 1=1,,2=2", "write a 1=1, 2=2",
                    "write a 1=1;2=2", "write a 10=1,9=1", "merge a b 2=1,1=1", "merge a b 1=1,1=2", "merge a b **")
        self.assertEqual(read_deed("write a 9=1,10=1"), ("write", "a", {9: 1, 10: 1}))

    def test_places(self):
        self.reject("carry a b 2,1", "carry a b 1,1", "carry a b 1,", "carry a b ,1", "carry a b ,", "carry a b *,1",
                    "carry a b 1,*", "carry a b **", "carry a b 1=1", "carry a b 1,,2", "carry a b 1;2", "carry a b 10,9")

    def test_deeds_that_would_raise_an_error_have_texts(self):
        for text in ("write a *", "prefer 1=1 1=1", "carry a b *", "fork a a", "drop nobody"):
            self.assertEqual(deed_text(read_deed(text)), text)

    def test_random_deeds(self):
        chance = random.Random(77)

        def name():
            return "".join(chance.choice("abz") for _ in range(chance.choice([1, 2, 5, 20])))

        def number():
            return chance.choice([0, 1, 9, 10, 255, 9999, 999999, chance.randint(0, 999999)])

        def writes():
            return {number(): number() for _ in range(chance.randint(0, 4))}

        for _ in range(500):
            deed = chance.choice([
                ("fork", name(), name()), ("drop", name()), ("write", name(), writes()), ("settle", name(), name()),
                ("merge", name(), [name() for _ in range(chance.randint(1, 3))], writes()),
                ("carry", name(), name(), sorted(writes())),
                (chance.choice(["prefer", "forget"]), (number(), number()), (number(), number()))])
            text = deed_text(deed)
            self.assertTrue(is_text(text))
            self.check(deed, read_deed, text)

    def test_random_texts(self):
        """Texts with a sign more, less or changed, against the form of the point."""
        chance = random.Random(771)
        texts = list(DEEDS)
        found = [0, 0]
        for _ in range(6000):
            text = chance.choice(texts)
            for _ in range(chance.choice([1, 1, 2])):
                at = chance.randrange(len(text) + 1)
                text = text[:at] + chance.choice(["", *" ,=*01aZ\n\t~"]) + text[at + chance.choice([0, 1]):]
            found[is_text(text)] += 1
            if is_text(text):
                self.assertEqual(deed_text(read_deed(text)), text)
            else:
                self.reject(text)
        self.assertGreater(min(found), 500)


if __name__ == "__main__":
    unittest.main()
