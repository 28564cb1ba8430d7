"""The published seal [4]."""

import hashlib
import unittest

from leafway import sha as unit
from leafway.errors import CanNot
from leafway.sha import codes_of, hex_numbers, hex_text, is_octets, sha
from tests.helper import check_call, check_thing, nested, odd_values

SIGNS = "".join(chr(code) for code in range(32, 127))

# Published: FIPS 180-4, the examples of SHA-256, and the empty message.
PUBLISHED = (
    ("", "e3b0c44298fc1c149afbf4c8996fb92427ae41e4649b934ca495991b7852b855"),
    ("abc", "ba7816bf8f01cfea414140de5dae2223b00361a396177a9cb410ff61f20015ad"),
    ("abcdbcdecdefdefgefghfghighijhijkijkljklmklmnlmnomnopnopq",
     "248d6a61d20638b8e5c026930c3e6039a33ce45964ff2167f6ecedd419db06c1"),
    ("abcdefghbcdefghicdefghijdefghijkefghijklfghijklmghijklmnhijklmnoijklmnopjklmnopqklmnopqrlmnopqrsmnopqrstnopqrstu",
     "cf5b16a778af8380036ce59e7b0492370b249b11e8f07a51afac45037afee9d1"),
)


class Octets(unittest.TestCase):

    def test_right_ones(self):
        for thing in ((), (0,), (255,), (0, 255), tuple(range(256)), (7,) * 100000):
            check_thing(self, is_octets, thing, True)

    def test_wrong_ones(self):
        for bad in (256, -1, True, False, None, "0", "", (), (0,), [0], [], 10 ** 5000, -10 ** 5000):
            for thing in ((bad,), (0, bad), (bad, 255), (1, bad, 2), (0,) * 500 + (bad,)):
                check_thing(self, is_octets, thing, False)

    def test_no_tuples(self):
        for thing in ([], [0], [0, 255], 0, 1, True, None, "", "00", nested(0, 100), nested(0, 100, list)):
            check_thing(self, is_octets, thing, False)

    def test_values_of_all_kinds(self):
        for thing in odd_values():
            wanted = type(thing) is tuple and all(type(own) is int and own in range(256) for own in thing)
            check_thing(self, is_octets, thing, wanted)


class Sha(unittest.TestCase):

    def test_examples(self):
        self.assertEqual(hex_text(sha((4, 0, 255, 17))),
                         "7ea4d33f0b8bb0e189541cbb0021df38445c81271a76dc4837c9c3785f92bd0f")
        self.assertEqual(hex_text(sha(codes_of("leaf by leaf"))),
                         "ac2989b63f33eb94bbc5efaaaae7697466d2c808006d2bca3dfff3398742bf0a")

    def test_published_ones(self):
        for text, wanted in PUBLISHED:
            self.assertEqual(hex_text(sha(codes_of(text))), wanted)

    def test_each_length_to_300(self):
        for many in range(301):
            for numbers in (tuple((37 * at + many) % 256 for at in range(many)), (255,) * many, (0,) * many):
                self.assertEqual(sha(numbers), tuple(hashlib.sha256(bytes(numbers)).digest()), many)

    def test_kinds_of_calls_and_of_result(self):
        for many in (0, 1, 55, 56, 63, 64, 119, 120, 300):
            told = check_call(self, sha, tuple(at % 256 for at in range(many)))
            self.assertIs(is_octets(told), True)
            self.assertEqual(len(told), 32)

    def test_each_step_of_the_tables_by_own_reckoning(self):
        primes = [number for number in range(2, 312) if all(number % one for one in range(2, number))]
        self.assertEqual(len(primes), 64)
        self.assertEqual(list(unit._START), [root_places(prime, 2) for prime in primes[:8]])
        self.assertEqual(list(unit._STEPS), [root_places(prime, 3) for prime in primes])


def root_places(number, power):
    """Return the first 32 binary places of the root of number, by halving."""
    aim, low, high = number << (32 * power), 0, number << 32
    while high - low > 1:
        middle = (low + high) // 2
        if middle ** power <= aim:
            low = middle
        else:
            high = middle
    return low % 2 ** 32


class HexTexts(unittest.TestCase):

    def test_examples(self):
        self.assertEqual((hex_text((0, 15, 255)), hex_numbers("00ff10"), hex_numbers("")),
                         ("000fff", (0, 255, 16), ()))
        self.assertRaises(CanNot, hex_numbers, "0G")

    def test_there_and_back(self):
        for numbers in [(one,) for one in range(256)] + [(), tuple(range(256)), (0,) * 300, (255, 0) * 150]:
            text = check_call(self, hex_text, numbers)
            self.assertEqual(text, bytes(numbers).hex())
            told = check_call(self, hex_numbers, text)
            self.assertEqual(repr(told), repr(numbers))

    def test_empty(self):
        self.assertEqual(hex_text(()), "")
        self.assertEqual(repr(hex_numbers("")), "()")

    def test_odd_number_of_signs(self):
        for many in (1, 3, 5, 63, 65, 599):
            self.assertRaises(CanNot, hex_numbers, "0" * many)
        self.assertRaises(CanNot, hex_numbers, text="abc")

    def test_each_other_sign_at_each_place(self):
        for sign in SIGNS:
            for place in range(6):
                text = "09afc3"[:place] + sign + "09afc3"[place + 1:]
                if sign in "0123456789abcdef":
                    self.assertEqual(hex_numbers(text), tuple(bytes.fromhex(text)))
                else:
                    self.assertRaises(CanNot, hex_numbers, text)

    def test_what_other_readers_would_take(self):
        for text in ("0x10", " 00", "00 ", "0 0 ", "00 11 ", "+1", "-1", "1_", "1_00", "AB", "aB", "  ", "F" * 600):
            self.assertRaises(CanNot, hex_numbers, text)


class Codes(unittest.TestCase):

    def test_example(self):
        self.assertEqual(codes_of(" 09AZaz~"), (32, 48, 57, 65, 90, 97, 122, 126))

    def test_all_signs(self):
        self.assertEqual(check_call(self, codes_of, SIGNS), tuple(range(32, 127)))
        for code, sign in enumerate(SIGNS, 32):
            self.assertEqual(repr(codes_of(sign)), repr((code,)))

    def test_none_and_many(self):
        self.assertEqual(repr(check_call(self, codes_of, "")), "()")
        self.assertEqual(codes_of("ba" * 300), (98, 97) * 300)
