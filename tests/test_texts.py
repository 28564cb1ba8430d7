"""Texts [14]."""

import random
import unittest

from leafway.errors import BadText
from leafway.known import put_together
from leafway.texts import head_read, head_text, known_read, known_text, log_read, log_text, seal_read, seal_text
from leafway.texts import sealer_read, sealer_text, told_read, told_text
from tests.helper import check_call
from tests.reckoning import leaf, node, own_head, own_root, told_all, told_entry, told_many, told_rise
from tests.shown import all_things, chance_things
from tests.written import Bad, bent_texts, own_head_read, own_head_text, own_known_read, own_known_text, own_log_read
from tests.written import own_log_text, own_seal_read, own_seal_text, own_sealer_read, own_told_read, own_told_text

SHA, WHOLE, FEW = ("sha",), ("whole",), ("weak", 100, 1)
SEALERS = (SHA, WHOLE, FEW, ("weak", 2, 0), ("weak", 10 ** 9, 10 ** 9))
LOG = ("a", "", " b", "NL1:a0", "at 3 z", "seal 7", "c ", "text ")
LONG = tuple("entry " + str(at) for at in range(300))
TOP = 10 ** 18
SIGNS = ("0", "1", "9", " ", "\n", "N", "L", ":", "a", "t", "~", "\r", "\x1f", "\x7f", "\u2028", "\x85", "\u0661", "-")
TOLD = (("entry", (3, 44), 1, "b c", (7, 0)), ("rise", (1, 5), (1, 5), ()))


def nested_seal(levels, side):
    """A seal by ("whole",) with so many nodes within one another, each the left or the right half of the next one."""
    seal = ("leaf", "x")
    for _ in range(levels):
        seal = ("node", seal, ("none",)) if side == "left" else ("node", ("none",), seal)
    return seal


class Readers(unittest.TestCase):
    """What the tests of all readers share."""

    def check_read(self, read, own_read, *values):
        """Check what read gives, or its BadText, beside an own reader; tell whether it is a value."""
        try:
            wanted = own_read(*values)
        except Bad as bad:
            with self.assertRaises(BadText, msg=repr(values)) as caught:
                read(*values)
            self.assertEqual(caught.exception.line, bad.line, values)
            return False
        self.assertEqual(repr(read(*values)), repr(wanted))
        return True

    def refused(self, line, read, *values):
        with self.assertRaises(BadText) as caught:
            read(*values)
        self.assertEqual(caught.exception.line, line)


class Examples(Readers):

    def test_written(self):
        self.assertEqual(told_text(FEW, TOLD),
                         "entry\nhead 3 44\nat 1 b c\nseal 7\nseal 0\nrise\nold 1 5\nhead 1 5")
        told = (told_read(FEW, told_text(FEW, TOLD)) == TOLD, seal_text(WHOLE, ("node", ("leaf", "a:"), ("none",))),
                log_text(("x", "", " ")))
        self.assertEqual(told, (True, "NL2:a:0", "text x\ntext \ntext  "))

    def test_read(self):
        told = (seal_read(WHOLE, "NL0:L1:0"), log_read("text "), log_read(""), sealer_read("weak 7 0"),
                head_text(WHOLE, (0, ("none",))))
        self.assertEqual(told, (("node", ("leaf", ""), ("leaf", "0")), ("",), (), ("weak", 7, 0), "head 0 0"))
        self.assertEqual(known_read(FEW, "known\nhead 3 44\nspan 0 2 9\nat 2 z"),
                         ((3, 44), (((0, 2), 9),), ((2, "z"),)))

    def test_refused(self):
        self.refused(3, told_read, FEW, "entry\nhead 3 44\nat 3 b")
        self.refused(4, told_read, FEW, "all\nhead 2 44\ntext a\nrise")
        self.refused(1, log_read, "text")


class Sealers(Readers):

    def test_there_and_back(self):
        for sealer in SEALERS + (("weak", 10 ** 39, 10 ** 40 - 1),):
            text = check_call(self, sealer_text, sealer)
            self.assertEqual(text, " ".join(map(str, sealer)))
            self.assertEqual(repr(check_call(self, sealer_read, text)), repr(sealer))

    def test_bent(self):
        for sealer in SEALERS:
            for text in bent_texts(sealer_text(sealer), SIGNS):
                self.check_read(sealer_read, own_sealer_read, text)

    def test_others(self):
        for text in ("", "weak 1 0", "weak 0 0", "weak 2", "weak 2 ", "weak 02 0", "weak 2 00", "weak 2 -1",
                     "weak +2 0",
                     "weak  2 0", "weak 2 0 ", " sha", "sha ", "Sha", "weak 2 0 0", "weak 2 1_0", "\n", "\nsha", "weak",
                     "weak 2 " + "1" * 41, "weak " + "1" * 41 + " 0", "weak 2 \u0661", "weak two 0", "sha\r", "sealer"):
            self.refused(1, sealer_read, text)
        for text in ("sha\n", "whole\nwhole", "weak 2 0\n", "sha\n\n"):
            self.refused(2, sealer_read, text)


class Seals(Readers):

    def test_there_and_back(self):
        draw = random.Random(1)
        for sealer in SEALERS:
            seals = [leaf(sealer, own) for own in ("", "a", ":", "0", "L1:a", "N00", " ", "~" * 200, "12:")]
            seals.append(own_root(sealer, ()))
            for _ in range(40):
                seals.append(node(sealer, draw.choice(seals), draw.choice(seals[-12:])))
            for seal in seals:
                text = seal_text(sealer, seal)
                self.assertEqual(text, own_seal_text(sealer, seal))
                self.assertEqual(repr(seal_read(sealer, text)), repr(seal))
            for seal in seals[::9]:
                self.assertEqual(check_call(self, seal_text, sealer, seal), own_seal_text(sealer, seal))
                self.assertEqual(check_call(self, seal_read, sealer, own_seal_text(sealer, seal)), seal)

    def test_bent(self):
        for sealer in SEALERS:
            for seal in (leaf(sealer, "ab:"), node(sealer, leaf(sealer, "0"), leaf(sealer, "N"))):
                for text in bent_texts(own_seal_text(sealer, seal), SIGNS):
                    self.check_seal(sealer, text)

    def check_seal(self, sealer, text):
        wanted = own_seal_read(sealer, text)
        if wanted is None:
            self.refused(1, seal_read, sealer, text)
        else:
            self.assertEqual(repr(seal_read(sealer, text)), repr(wanted))

    def test_others(self):
        for text in ("", "1", "00", "L", "L:", "L0", "L1:", "L01:a", "L2:a", "L1:ab", "N", "N0", "N00 ", " 0", "N000",
                     "n00",
                     "L1:\n", "L1:\x7f", "L-1:", "L201:" + "a" * 201, "L200:" + "a" * 199, "0\n", "\n0", "L1a:",
                     "L" + "9" * 50,
                     "L" + "1" * 41 + ":a", "N" * 1000, "N" * 100000 + "0" * 100001, "0" * 100000):
            self.refused(1, seal_read, WHOLE, text)
            self.check_seal(WHOLE, text[:2000])
        self.assertEqual(seal_read(WHOLE, "L200:" + "a" * 200), ("leaf", "a" * 200))
        for text in ("", "100", "007", "00", "-1", "+1", " 1", "1 ", "1\n", "\u0661", "1_0", "0x1", "a", "1" * 41):
            self.refused(1, seal_read, FEW, text)
        great = ("weak", 10 ** 45, 0)
        self.assertEqual(seal_read(great, "9" * 40), 10 ** 40 - 1)
        self.refused(1, seal_read, great, "1" + "0" * 40)
        for text in ("", "0" * 63, "0" * 65, "A" * 64, "g" * 64, "0" * 63 + "\n", "0" * 64 + "\n", "\u0661" * 64):
            self.refused(1, seal_read, SHA, text)

    def test_nodes_within_one_another(self):
        for side in ("left", "right"):
            for levels in (1, 5, 199, 200):
                seal = nested_seal(levels, side)
                self.assertEqual(seal_read(WHOLE, seal_text(WHOLE, seal)), seal)
                self.assertEqual(head_read(WHOLE, head_text(WHOLE, (3, seal))), (3, seal))
            for levels in (201, 202, 400):
                text = seal_text(WHOLE, nested_seal(levels, side))
                self.refused(1, seal_read, WHOLE, text)
                self.refused(1, head_read, WHOLE, "head 3 " + text)
                self.refused(4, told_read, WHOLE, "entry\nhead 1 0\nat 0 \nseal " + text)
        wide = "N" + seal_text(WHOLE, nested_seal(199, "left")) + seal_text(WHOLE, nested_seal(199, "right"))
        self.assertEqual(seal_text(WHOLE, seal_read(WHOLE, wide)), wide)
        deep = "N" + seal_text(WHOLE, nested_seal(199, "left")) + seal_text(WHOLE, nested_seal(200, "right"))
        self.refused(1, seal_read, WHOLE, deep)
        comb = "0"
        for _ in range(200):
            comb = "N" + comb + "L1:a"
        self.assertEqual(seal_text(WHOLE, seal_read(WHOLE, comb)), comb)

    def test_deeper_seals_are_written(self):
        for side in ("left", "right"):
            text = seal_text(WHOLE, nested_seal(3000, side))
            self.assertEqual((text.count("N"), text.count("0"), len(text)), (3000, 3000, 6004))


class Heads(Readers):

    def test_there_and_back(self):
        for sealer in SEALERS:
            for head in [own_head(sealer, LOG[:size]) for size in (0, 1, 3)] + [(TOP, leaf(sealer, "a b"))]:
                text = check_call(self, head_text, sealer, head)
                self.assertEqual(text, own_head_text(sealer, head))
                self.assertEqual(repr(check_call(self, head_read, sealer, text)), repr(head))

    def test_bent(self):
        for sealer in SEALERS[1:4]:
            for text in bent_texts(head_text(sealer, (21, leaf(sealer, "a b"))), SIGNS):
                self.check_read(head_read, own_head_read, sealer, text)

    def test_numbers(self):
        for figures, right in (("9" * 40, True), ("1" * 41, False), ("0", True), ("00", False), ("01", False),
                               ("+1", False),
                               ("-0", False), ("", False), ("1" + "0" * 39, True), ("1e3", False), ("\u0661", False)):
            self.assertIs(self.check_read(head_read, own_head_read, FEW, "head " + figures + " 5"), right)
        for text in ("", "head", "head ", "head 3", "head 3 ", "head  3 5", "head 3  5", "head 3 5 ", "Head 3 5",
                     "old 3 5",
                     "head 3 100", "head 3 05", "\nhead 3 5"):
            self.refused(1, head_read, FEW, text)
        for text in ("head 3 5\n", "head 3 5\nhead 3 5", "head 3 5\n\n"):
            self.refused(2, head_read, FEW, text)


class Logs(Readers):

    def test_there_and_back(self):
        for log in (LOG, (), ("",), ("", ""), LONG, ("~" * 200, " " * 200)):
            text = check_call(self, log_text, log)
            self.assertEqual(text, own_log_text(log))
            self.assertEqual(repr(check_call(self, log_read, text)), repr(log))

    def test_bent(self):
        for text in bent_texts(log_text(LOG[:4]), SIGNS):
            self.check_read(log_read, own_log_read, text)

    def test_others(self):
        for text, line in (("text", 1), ("text a\n", 2), ("\ntext a", 1), ("text a\ntext", 2), ("text a\n\ntext b", 2),
                           ("text " + "a" * 201, 1), ("text a\rtext b", 1), ("text a\u2028text b", 1), ("text \t", 1),
                           ("text a\r\ntext b", 1), ("Text a", 1), (" text a", 1), ("text a\nseal 3\ntext", 2),
                           ("\n", 1)):
            self.refused(line, log_read, text)


class Told(Readers):

    def test_there_and_back(self):
        for sealer in SEALERS:
            things = (told_entry(sealer, LOG[:5], 1), told_rise(sealer, LOG, 3, 5),
                      told_many(sealer, LOG[:5], (0, 3, 4)),
                      told_all(sealer, LOG), told_all(sealer, ()), told_rise(sealer, LOG, 8, 8))
            for own in (things, (), things[:1], things[::-1], things + things):
                text = check_call(self, told_text, sealer, own)
                self.assertEqual(text, own_told_text(sealer, own))
                self.assertEqual(repr(check_call(self, told_read, sealer, text)), repr(own))

    def test_whatever_is_taken_or_not(self):
        draw = random.Random(2)
        for sealer in SEALERS[:4]:
            for things in ([all_things(sealer, LOG[:4])[::5], chance_things(sealer, 5, 30, 1)]):
                for _ in range(5):
                    own = tuple(draw.sample(things, 3))
                    bent = own + (("entry", (9, leaf(sealer, "z")), 8, "", (leaf(sealer, "z"),) * 9),
                                  ("rise", (2, leaf(sealer, "y")), (TOP, leaf(sealer, "z")), ()))
                    self.assertEqual(told_read(sealer, told_text(sealer, bent)), bent)

    def test_bent(self):
        for sealer in (FEW, WHOLE, SHA):
            things = (told_entry(sealer, LOG[:2], 1), told_rise(sealer, LOG, 1, 2), told_many(sealer, LOG[:3], (0, 2)),
                      told_all(sealer, LOG[:2]))
            for told in things + ((("all", (0, leaf(sealer, "a")), ()),) if sealer == FEW else ()):
                values = [self.check_read(told_read, own_told_read, sealer, text)
                          for text in bent_texts(told_text(sealer, (told,)), SIGNS[:10] if sealer == SHA else SIGNS)]
                self.assertIn(False, values)
                self.assertIn(True, values)
        for text in bent_texts(told_text(FEW, TOLD), ()):
            self.check_read(told_read, own_told_read, FEW, text)

    def test_lines_that_can_not_stand_there(self):
        entry, rise, many, whole = "entry\nhead 3 4\n", "rise\nold 2 4\n", "many\nhead 3 4\n", "all\nhead 2 4\n"
        for text, line in (("entry", 2), (entry[:-1], 3), (entry, 3), (entry + "at 1", 3), (entry + "at 1 ", None),
                           (entry + "at 3 b", 3), (entry + "at 03 b", 3), (entry + "at 1 b\nat 2 c", 4),
                           (entry + "at 1 b\nseal", 4), (entry + "at 1 b\nseal ", 4), (entry + "at 1 b\nseal 100", 4),
                           (entry + "at 1 b\n", 4), (entry + "seal 3", 3), ("entry\nhead 0 4\nat 0 b", 3),
                           ("entry \nhead 3 4", 1), ("entry\nold 3 4", 2), ("", None), ("\n", 1), ("told", 1),
                           (rise[:-1], 3), ("rise\nold 0 4\nhead 3 4", 2), (rise + "head 1 4", 3),
                           (rise + "head 2 4", None),
                           (rise + "old 2 4", 3), (rise + "head 2 4\nhead 2 4", 4), ("rise\nhead 3 4", 2), ("rise", 2),
                           (many[:-1], 3), (many + "at 1 b\nat 1 c", 4), (many + "at 1 b\nat 0 c", 4),
                           (many + "seal 3", 3),
                           (many + "at 1 b\nat 2 c", None), (many + "at 1 b\nat 3 c", 4),
                           (many + "at 0 b\nat 2 c\nat 1 d", 5),
                           (many + "at 1 b\nseal 1\nat 2 c", 5), ("many\nhead 0 4\nat 0 b", 3), ("many", 2),
                           (whole + "text a", 4), (whole[:-1], 3), (whole + "text a\ntext b", None), ("all", 2),
                           (whole + "text a\ntext b\ntext c", 5), (whole + "text a\nseal 3", 4),
                           ("all\nhead 0 4", None),
                           ("all\nhead 0 4\ntext ", 3), ("all\nhead " + "9" * 40 + " 4\ntext a", 4), (whole + "\n", 3),
                           ("all\nhead " + "9" * 41 + " 4\ntext a", 2), (entry + "at 1 b\nentry", 5),
                           (entry + "at 1 b\nsomething", 4), (entry + "at 1 b\rseal 3", 3),
                           (whole + "text a\ntext b\n", 5)):
            if line is None:
                self.assertEqual(told_text(FEW, told_read(FEW, text)), text)
            else:
                self.refused(line, told_read, FEW, text)
            self.check_read(told_read, own_told_read, FEW, text)

    def test_at_the_bounds(self):
        for sealer in (WHOLE, FEW):
            way = tuple(leaf(sealer, str(at)) for at in range(130))
            entries = tuple((TOP - 40 + at, "seal " + str(at)) for at in range(40))
            things = (("many", (TOP, leaf(sealer, "z")), entries, way), told_all(sealer, LONG)) * 30
            self.assertEqual(told_read(sealer, told_text(sealer, things)), things)


class Known(Readers):

    def test_there_and_back(self):
        for sealer in SEALERS:
            for size in (0, 1, 5):
                head = own_head(sealer, LOG[:size])
                for things in ((), (told_all(sealer, LOG[:size]),), (told_rise(sealer, LOG, size, size),)
                               if size else ()):
                    known = put_together(sealer, head, things)[1]
                    text = check_call(self, known_text, sealer, known)
                    self.assertEqual(text, own_known_text(sealer, known))
                    self.assertEqual(repr(check_call(self, known_read, sealer, text)), repr(known))

    def test_bent(self):
        for sealer in (FEW, WHOLE):
            known = ((12, leaf(sealer, "z")), (((0, 2), leaf(sealer, "a b")), ((0, 11), leaf(sealer, "c"))),
                     ((2, "z"), (10, "")))
            values = [self.check_read(known_read, own_known_read, sealer, text)
                      for text in bent_texts(known_text(sealer, known), SIGNS)]
            self.assertIn(False, values)
            self.assertIn(True, values)

    def test_lines_that_can_not_stand_there(self):
        known = "known\nhead 9 4\n"
        for text, line in (("", 1), ("known", 2), (known, 3), (known[:-1], None), (known + "span 0 2 5", None),
                           (known + "span 2 2 5", 3), (known + "span 3 2 5", 3), (known + "span 0 9 5", None),
                           (known + "span 0 10 5", 3), (known + "span 0 2", 3), (known + "span 0 2 ", 3),
                           (known + "span 0", 3),
                           (known + "span 0 2 5\nspan 0 2 5", 4), (known + "span 0 3 5\nspan 0 2 5", 4),
                           (known + "span 00 2 5", 3),
                           (known + "span 0 2 5\nspan 0 3 5\nspan 1 2 5", None), (known + "span 1 2 5\nspan 0 9 5", 4),
                           (known + "at 1 a\nspan 0 2 5", 4), (known + "at 1 a\nat 1 b", 4), (known + "at 9 a", 3),
                           (known + "at 2 a\nat 1 b", 4), (known + "at 8 a", None), (known + "seal 5", 3),
                           ("Known\nhead 9 4", 1),
                           (known + "span 0 2 100", 3), (known + "at 1 a\nat 2 b\n", 5), ("known\nold 9 4", 2),
                           ("known\nhead 0 4\nat 0 a", 3), ("known\nhead 0 4\nspan 0 1 3", 3), ("known \nhead 9 4", 1)):
            if line is None:
                self.assertEqual(known_text(FEW, known_read(FEW, text)), text)
            else:
                self.refused(line, known_read, FEW, text)
            self.check_read(known_read, own_known_read, FEW, text)


if __name__ == "__main__":
    unittest.main()
