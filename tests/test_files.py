"""Files [13]."""

import itertools
import unittest

from leafway.errors import BadText
from leafway.files import file_text, grown_file, left_of, mended, read_file, row_heads, rows_in
from tests.helper import check_call
from tests.reckoning import own_head
from tests.written import bent_texts, own_begun, own_rows

SHA, WHOLE, FEW = ("sha",), ("whole",), ("weak", 97, 5)
WEAKEST = ("weak", 2, 0)
SEALERS = (SHA, WHOLE, FEW, WEAKEST, ("weak", 10 ** 9, 10 ** 9))
LOG = ("ann 5", "", " ", "7", "12 b 3", "5 ann 5 81", "a" * 200, "~ ")
SHORT = ("ann 5", "bob 2", "cat 9")
LONG = tuple("entry " + str(at) for at in range(300))
SIGNS = ("0", "1", "8", " ", "\n", "a", "L", "\r", "\u2028", "\x7f")


class Files(unittest.TestCase):
    """What the tests of this file share."""

    def check_text(self, sealer, text):
        """Check all that is told of any text beside an own reckoning; return its longest file."""
        log = own_begun(sealer, text)
        longest = "".join(own_rows(sealer, log))
        self.assertTrue(text.startswith(longest))
        self.assertEqual(rows_in(sealer, text), len(log))
        self.assertEqual(mended(sealer, text), longest)
        self.assertEqual(mended(sealer, longest), longest)
        heads = [own_head(sealer, log[:size]) for size in range(1, len(log) + 1)]
        self.assertEqual(repr(row_heads(sealer, text)), repr(heads))
        if longest == text:
            self.assertEqual(repr(read_file(sealer, text)), repr(log))
        else:
            self.refused(len(log) + 1, read_file, sealer, text)
            self.refused(len(log) + 1, grown_file, sealer, text, "a")
        return longest

    def refused(self, line, function, *values):
        with self.assertRaises(BadText) as caught:
            function(*values)
        self.assertEqual(caught.exception.line, line)


class Examples(Files):

    def test_all_of_them(self):
        text = file_text(FEW, SHORT)
        self.assertEqual((text, len(text)), ("5 ann 5 81\n5 bob 2 84\n5 cat 9 58\n", 33))
        told = read_file(FEW, text), row_heads(FEW, text), mended(FEW, text[:32]), rows_in(FEW, text[11:])
        self.assertEqual(told, (SHORT, [(1, 81), (2, 84), (3, 58)], "5 ann 5 81\n5 bob 2 84\n", 0))
        told = ([left_of(FEW, SHORT, own) for own in (0, 10, 11, 32, 33, 99)], mended(FEW, text + "5 dan"),
                grown_file(FEW, text[:11], "bob 2") == text[:22])
        self.assertEqual(told, ([0, 0, 1, 2, 3, 3], "5 ann 5 81\n5 bob 2 84\n5 cat 9 58\n", True))
        self.assertEqual((file_text(FEW, ()), read_file(FEW, ""), rows_in(FEW, "05 ann 5 81\n")), ("", (), 0))
        self.refused(3, read_file, FEW, text.replace("cat 9", "cat 8"))
        self.refused(3, grown_file, FEW, text[:32], "dan 1")


class ThereAndBack(Files):

    def test_logs_of_0_to_8_entries(self):
        for sealer in SEALERS:
            for size in range(9):
                log = LOG[:size]
                text = check_call(self, file_text, sealer, log)
                self.assertEqual(text, "".join(own_rows(sealer, log)))
                self.assertEqual(repr(check_call(self, read_file, sealer, text)), repr(log))
                self.assertEqual(check_call(self, rows_in, sealer, text), size)
                self.assertEqual(check_call(self, mended, sealer, text), text)
                heads = check_call(self, row_heads, sealer, text)
                self.assertEqual(repr(heads), repr([own_head(sealer, log[:own]) for own in range(1, size + 1)]))

    def test_a_returned_list_is_new(self):
        text = file_text(FEW, SHORT)
        row_heads(FEW, text).clear()
        self.assertEqual(len(row_heads(FEW, text)), 3)

    def test_grown(self):
        for sealer in SEALERS:
            for size in range(8):
                text = "".join(own_rows(sealer, LOG[:size]))
                result = check_call(self, grown_file, sealer, text, LOG[size])
                self.assertEqual(result, "".join(own_rows(sealer, LOG[:size + 1])))

    def test_long_logs(self):
        text = file_text(FEW, LONG)
        self.assertEqual((read_file(FEW, text), rows_in(FEW, text[:-1]), left_of(FEW, LONG, len(text) - 1)),
                         (LONG, 299, 299))
        for sealer in (WHOLE, SHA):
            text = file_text(sealer, LONG[:40])
            self.assertEqual((read_file(sealer, text), rows_in(sealer, text[:-1])), (LONG[:40], 39))


class CutOff(Files):

    def test_at_each_sign(self):
        for sealer in SEALERS:
            for log in (SHORT, LOG[1:6], ("",), ()):
                rows = own_rows(sealer, log)
                text = "".join(rows)
                ends = list(itertools.accumulate([len(row) for row in rows]))
                for many in range(len(text) + 3):
                    whole = len([end for end in ends if end <= many])
                    self.assertEqual(left_of(sealer, log, many), whole)
                    if many <= len(text):
                        self.assertEqual(self.check_text(sealer, text[:many]), "".join(rows[:whole]))
                self.assertEqual(left_of(sealer, log, 10 ** 18), len(log))

    def test_with_whatever_behind(self):
        for sealer in (FEW, WHOLE):
            rows = own_rows(sealer, SHORT)
            for more in ("x", "\n", "5 cat 9", rows[0], rows[2][:-1], "\u20ac\n" * 9, rows[2], rows[2] + rows[2], "0",
                         " "):
                longest = self.check_text(sealer, "".join(rows[:2]) + more)
                self.assertTrue(longest.startswith("".join(rows[:2])))

    def test_left_of_calls(self):
        for sealer in SEALERS:
            for many in (0, 30, 200, 1000):
                wanted = len(own_begun(sealer, "".join(own_rows(sealer, LOG))[:many]))
                self.assertEqual(check_call(self, left_of, sealer, LOG, many), wanted)


class Bent(Files):

    def test_one_sign_or_line(self):
        for sealer in (FEW, WEAKEST, WHOLE):
            for log in (SHORT, ("", "7")):
                for text in bent_texts("".join(own_rows(sealer, log)), SIGNS):
                    self.check_text(sealer, text)
        for text in bent_texts("".join(own_rows(SHA, ("a", "b"))), SIGNS[:2]):
            self.check_text(SHA, text)

    def test_such_as_are_no_rows(self):
        first = "5 ann 5 81\n"
        for text, line in (("\n", 1), (" ", 1), ("5", 1), ("5 ann 5 81", 1), (first + "\n", 2),
                           (first + "5 bob 2 84", 2),
                           ("05 ann 5 81\n", 1), ("5  ann 5 81\n", 1), ("5 ann 5  81\n", 1), ("5 ann 5 81 \n", 1),
                           ("5 ann 5 081\n", 1), ("5 ann 5 81\r\n", 1), (first + first, 2), ("+5 ann 5 81\n", 1),
                           ("6 ann 5 81\n", 1), ("4 ann 5 81\n", 1), ("5 ann 5\n81\n", 1), ("\u0665 ann 5 81\n", 1),
                           (first + "5 bob 2 84\n5 cat 9 55\n5", 3), ("9" * 5000 + " ann 5 81\n", 1), ("-1 a 8\n", 1),
                           ("201 " + "a" * 201 + " 5\n", 1), ("1 \x7f 5\n", 1), (first + "\ufeff5 bob 2 84\n", 2)):
            self.refused(line, read_file, FEW, text)
            self.check_text(FEW, text)

    def test_an_entry_without_a_sign(self):
        (row,) = own_rows(FEW, ("",))
        self.assertEqual(row, "0  6\n")
        self.assertEqual(read_file(FEW, row), ("",))
        for text in ("0 6\n", "00  6\n", " 6\n", "0   6\n"):
            self.refused(1, read_file, FEW, text)

    def test_files_of_one_text_at_most(self):
        """By weak seals, too, each text is the file of one log at most."""
        logs = [log for size in range(5) for log in itertools.product(("", "a", "c"), repeat=size)]
        for sealer in (WEAKEST, FEW):
            texts = {file_text(sealer, log) for log in logs}
            self.assertEqual(len(texts), len(logs))

    def test_calls(self):
        for sealer in SEALERS:
            text = "".join(own_rows(sealer, SHORT))[:-1]
            self.assertEqual(check_call(self, mended, sealer, text), "".join(own_rows(sealer, SHORT[:2])))
            self.assertEqual(check_call(self, rows_in, sealer, text), 2)


if __name__ == "__main__":
    unittest.main()
