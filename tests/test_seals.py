"""Entries, sealers, seals and matters [3] [5]."""

import copy
import unittest

from leafway.seals import is_entry, is_matter, is_seal, is_sealer, seal_of
from tests.helper import check_call, check_thing, listed, nested, odd_values
from tests.reckoning import sha_text, weak_number

SHA, WHOLE, FEW = ("sha",), ("whole",), ("weak", 1000, 5)
BIG = 10 ** 9
WEAK = (("weak", 2, 0), ("weak", 2, BIG), ("weak", BIG, 0), ("weak", BIG, BIG), ("weak", 3, 1), FEW)
SIGNS = "".join(chr(code) for code in range(32, 127))
WORDS = ("none", "leaf", "node", "sha", "whole", "weak")
ENTRIES = ("", " ", "a", "ab", "ba", "ann 5", "~" * 200, SIGNS, SIGNS + SIGNS) + WORDS + tuple(SIGNS)
NONE, LEAF = ("none",), ("leaf", "a")


def chain(levels, end=NONE):
    """A seal by ("whole",), nested so deeply."""
    seal = LEAF
    for at in range(levels):
        seal = ("node", seal, end) if at % 2 else ("node", end, seal)
    return seal


def twins(levels):
    """A seal by ("whole",) whose halves are one object, at each level."""
    seal = LEAF
    for _ in range(levels):
        seal = ("node", seal, seal)
    return seal


def bent(thing):
    """Return things like thing, a seal by ("whole",), each wrong in one place."""
    wrong = [list(thing), thing + ("a",), thing + (NONE,), thing[:-1], ("None",) + thing[1:], (None,) + thing[1:],
             ("root",) + thing[1:], (thing,), thing[0], True, 0, None, ()]
    if thing[0] == "none":
        return wrong + [("none", ""), ("none", NONE), ("leaf",), ("node",)]
    if thing[0] == "leaf":
        ends = ["a" * 201, "a\n", "\x1f", "\x7f", "\u20ac", 5, None, True, ("a",), ["a"], NONE]
        return wrong + [("leaf", one) for one in ends] + [("node", thing[1]), ("none", thing[1])]
    wrong += [("leaf", thing[1], thing[2]), ("none", thing[1], thing[2])]
    wrong += [("node", one, thing[2]) for one in bent(thing[1])]
    return wrong + [("node", thing[1], one) for one in bent(thing[2])]


class Entries(unittest.TestCase):

    def test_examples(self):
        told = [is_entry(one) for one in ("so be it ~", "", "a" * 201, "a\n")]
        self.assertEqual(told, [True, True, False, False])

    def test_right_ones(self):
        for thing in ENTRIES + (" " * 200, "~" * 199):
            check_thing(self, is_entry, thing, True)

    def test_too_long(self):
        for many in (201, 202, 1000, 100000):
            check_thing(self, is_entry, "a" * many, False)

    def test_other_signs_at_each_end_and_amid(self):
        for sign in ("\x1f", "\x7f", "\n", "\t", "\r", "\x00", "\x80", "\xa0", "\xe9", "\u20ac", "\u0661"):
            for thing in (sign, sign + "a", "a" + sign, "a" + sign + "b", "a" * 199 + sign):
                check_thing(self, is_entry, thing, False)

    def test_values_of_all_kinds(self):
        for thing in odd_values():
            wanted = isinstance(thing, str) and len(thing) < 201 and set(thing) <= set(SIGNS)
            check_thing(self, is_entry, thing, wanted)


class Sealers(unittest.TestCase):

    def test_examples(self):
        told = [is_sealer(one) for one in (("weak", 2, 0), ("weak", 1, 0), "sha", ("sha",))]
        self.assertEqual(told, [True, False, False, True])

    def test_right_ones(self):
        for thing in WEAK + (SHA, WHOLE, ("weak", 2, 10 ** 5000), ("weak", 10 ** 5000, 0)):
            check_thing(self, is_sealer, thing, True)
            check_thing(self, is_sealer, listed(thing), False)
            check_thing(self, is_sealer, thing + (0,), False)
            check_thing(self, is_sealer, thing[:-1], False)
            check_thing(self, is_sealer, (thing,), False)

    def test_wrong_numbers(self):
        for bad in (1, 0, -1, -2, True, False, None, "2", (2,), [2], -10 ** 5000):
            check_thing(self, is_sealer, ("weak", bad, 0), False)
        for bad in (-1, -2, True, False, None, "0", (0,), [0], -10 ** 5000):
            check_thing(self, is_sealer, ("weak", 2, bad), False)

    def test_wrong_words(self):
        for word in ("Sha", "SHA", "sha ", "", "none", "weak", "wholes", None, 0, True, ("sha",), ["sha"]):
            check_thing(self, is_sealer, (word,), False)
        for word in ("sha", "whole", "Weak", "weak ", "", None, 0, ("weak",)):
            check_thing(self, is_sealer, (word, 2, 0), False)
        for thing in ("sha", "whole", "weak", ("weak",), ("sha", "whole"), ("sha", 2, 0), (("weak", 2, 0),)):
            check_thing(self, is_sealer, thing, False)

    def test_values_of_all_kinds(self):
        right = {(word,) for word in ("sha", "whole")} | {("weak", one, one) for one in (2, 255, 256, BIG, 10 ** 5000)}
        for thing in odd_values():
            wanted = type(thing) is tuple and 0 < len(thing) < 4 and not nestedly(thing) and thing in right
            check_thing(self, is_sealer, thing, wanted and True not in [one is True for one in thing])


def nestedly(thing):
    """Tell whether thing has lists or tuples in it."""
    return any(isinstance(one, (list, tuple)) for one in thing)


class WeakAndShaSeals(unittest.TestCase):

    def test_examples(self):
        told = [is_seal(FEW, 999), is_seal(FEW, 1000), is_seal(FEW, True), is_seal(SHA, "0" * 64),
                is_seal(SHA, "A" * 64)]
        self.assertEqual(told, [True, False, False, True, False])
        told = [is_matter(FEW, ("node", 1, 2)), is_matter(FEW, ("node", 1, LEAF)), is_matter(FEW, 7)]
        self.assertEqual(told, [True, False, False])

    def test_weak_seals(self):
        for sealer in WEAK:
            m = sealer[1]
            for thing in (0, 1, m - 1):
                check_thing(self, is_seal, thing, True, sealer)
            for thing in (-1, m, m + 1, -m, 10 ** 5000, True, False, None, "0", "", (), (0,), [0], NONE, LEAF):
                check_thing(self, is_seal, thing, False, sealer)
        check_thing(self, is_seal, 10 ** 5000 - 1, True, ("weak", 10 ** 5000, 0))

    def test_sha_seals(self):
        right = "0123456789abcdef" * 4
        for thing in (right, "0" * 64, "f" * 64, sha_text(NONE), sha_text(LEAF)):
            check_thing(self, is_seal, thing, True, SHA)
        for thing in (right[1:], right + "0", "", right + "\n", right.upper(), (right,), [right], 0, True, None, NONE):
            check_thing(self, is_seal, thing, False, SHA)
        for sign in SIGNS + "\n\x7f\u0661\uff11\xb2":
            for place in (0, 31, 63):
                thing = right[:place] + sign + right[place + 1:]
                check_thing(self, is_seal, thing, sign in "0123456789abcdef", SHA)

    def test_seals_of_all_kinds(self):
        for thing in odd_values():
            number = type(thing) is int
            check_thing(self, is_seal, thing, number and 0 <= thing < 1000, FEW)
            check_thing(self, is_seal, thing, number and 0 <= thing < 2, ("weak", 2, 7))
            check_thing(self, is_seal, thing, isinstance(thing, str) and thing == "0" * 64, SHA)

    def test_matters_without_halves(self):
        for sealer in WEAK + (SHA, WHOLE):
            for thing in (NONE,) + tuple(("leaf", entry) for entry in ENTRIES):
                check_thing(self, is_matter, thing, True, sealer)
                for one in bent(thing):
                    check_thing(self, is_matter, one, False, sealer)

    def test_nodes(self):
        for sealer, right, wrong in self.halves():
            for left in right:
                for other in right:
                    check_thing(self, is_matter, ("node", left, other), True, sealer)
                    for thing in (["node", left, other], ("node", left), ("node", left, other, other),
                                  ("Node", left, other), ("leaf", left, other), (left, "node", other), left):
                        check_thing(self, is_matter, thing, False, sealer)
                for bad in wrong:
                    check_thing(self, is_matter, ("node", left, bad), False, sealer)
                    check_thing(self, is_matter, ("node", bad, left), False, sealer)

    def halves(self):
        """Sealers with what may stand in a node, and what may not."""
        wrong = (True, False, None, -1, (), (0,), [0], "", "0" * 63, "A" * 64, NONE, LEAF)
        told = [(sealer, (0, 1, sealer[1] - 1), wrong + (sealer[1], "0" * 64)) for sealer in WEAK]
        return told + [(SHA, ("0" * 64, sha_text(LEAF)), wrong + (0, 1))]

    def test_matters_of_all_kinds(self):
        for thing in odd_values():
            form = type(thing) is tuple and thing[:1] in (("leaf",), ("none",), ("node",))
            leaf = form and thing[0] == "leaf" and len(thing) == 2 and is_entry(thing[1])
            end = leaf or (form and thing == NONE)
            node = form and len(thing) == 3 and thing[0] == "node" and type(thing[1]) is int and 0 <= thing[1] < 1000
            check_thing(self, is_matter, thing, end or node, FEW)
            node = form and len(thing) == 3 and thing == ("node", "0" * 64, "0" * 64)
            check_thing(self, is_matter, thing, end or node, SHA)
            check_thing(self, is_matter, thing, end, WHOLE)
            check_thing(self, is_seal, thing, end, WHOLE)


class WholeSeals(unittest.TestCase):

    def test_examples(self):
        told = [is_seal(WHOLE, ("node", LEAF, NONE)), is_seal(WHOLE, ("node", LEAF)), is_seal(WHOLE, 7)]
        self.assertEqual(told, [True, False, False])

    def test_right_ones(self):
        for thing in (NONE, LEAF, ("leaf", ""), ("leaf", "~" * 200), ("node", NONE, NONE), ("node", LEAF, NONE),
                      ("node", ("node", LEAF, NONE), LEAF), chain(5), chain(97), chain(5, chain(5)), twins(6)):
            check_thing(self, is_seal, thing, True, WHOLE)
            check_thing(self, is_matter, thing, True, WHOLE)

    def test_bent_ones(self):
        for right in (NONE, LEAF, ("node", NONE, LEAF), ("node", LEAF, LEAF), ("node", NONE, ("node", LEAF, NONE)),
                      chain(5), twins(2)):
            for thing in bent(right):
                check_thing(self, is_seal, thing, False, WHOLE)
                check_thing(self, is_matter, thing, False, WHOLE)

    def test_deep_ones(self):
        for levels in (50, 97, 98, 99):
            check_thing(self, is_seal, chain(levels), True, WHOLE)
            self.assertIs(is_matter(WHOLE, ("node", chain(levels), chain(levels))), True)
            for bad in (7, ("none", ""), ["none"], ("leaf", "a\n"), ("leaf",), None, True):
                thing = bad
                for at in range(levels):
                    thing = ("node", thing, NONE) if at % 3 else ("node", LEAF, thing)
                check_thing(self, is_seal, thing, False, WHOLE)
                check_thing(self, is_matter, thing, False, WHOLE)

    def test_halves_that_are_one_object(self):
        self.assertIs(is_seal(WHOLE, twins(100)), True)
        self.assertIs(is_matter(WHOLE, ("node", twins(99), LEAF)), True)
        thing = ("leaf", "\n")
        for _ in range(99):
            thing = ("node", thing, thing)
        self.assertIs(is_seal(WHOLE, thing), False)

    def test_a_wrong_right_half_beside_a_right_left_one(self):
        check_thing(self, is_seal, ("node", ("none",), ["none"]), False, WHOLE)
        check_thing(self, is_seal, ("node", ("leaf", "a"), ("leaf", ["a"])), False, WHOLE)


class SealOf(unittest.TestCase):

    def test_examples(self):
        told = [seal_of(FEW, own) for own in (NONE, ("leaf", ""), ("leaf", "a"), ("leaf", "ab"), ("node", 703, 12),
                                              ("node", 12, 703))]
        self.assertEqual(told, [5, 6, 883, 771, 964, 200])
        self.assertEqual([seal_of(("weak", 2, 0), ("leaf", own)) for own in "abcd"], [0, 1, 0, 1])
        self.assertEqual(repr(seal_of(WHOLE, ["leaf", "ab"])), repr(("leaf", "ab")))
        self.assertEqual(seal_of(SHA, ("leaf", "ann 5")),
                         "4a55e95aecde468b05f7d24518b5c6b5306502b5cc101d61bd47ebb1e2c70758")
        self.assertEqual(seal_of(SHA, ("leaf", "bob 2")),
                         "12fa211ccbe5eef55ce12fb21216bdce34626cb1debc9c69c6ea9fa78b79d96d")

    def test_none_and_leaves_by_each_sealer(self):
        for matter in (NONE,) + tuple(("leaf", entry) for entry in ENTRIES):
            for sealer in WEAK:
                told = check_call(self, seal_of, sealer, matter)
                self.assertEqual(repr(told), repr(weak_number(sealer[1], sealer[2], matter)))
            self.assertEqual(check_call(self, seal_of, SHA, matter), sha_text(matter))
            self.assertEqual(repr(check_call(self, seal_of, WHOLE, matter)), repr(matter))

    def test_nodes_by_each_sealer(self):
        for sealer in WEAK:
            m = sealer[1]
            for left in (0, 1, m // 2, m - 1):
                for right in (0, 1, m // 2, m - 1):
                    told = check_call(self, seal_of, sealer, ("node", left, right))
                    self.assertEqual(told, weak_number(m, sealer[2], ("node", left, right)))
        halves = ("0" * 64, "f" * 64, sha_text(NONE), sha_text(LEAF))
        for left in halves:
            for right in halves:
                told = check_call(self, seal_of, SHA, ("node", left, right))
                self.assertEqual(told, sha_text(("node", left, right)))
        for matter in (("node", NONE, LEAF), chain(5), chain(60), twins(5), ("node", chain(3), twins(3))):
            self.assertEqual(repr(check_call(self, seal_of, WHOLE, matter)), repr(matter))

    def test_roots_of_trees_as_rfc_6962_has_them(self):
        left, right = (seal_of(SHA, ("leaf", entry)) for entry in ("ann 5", "bob 2"))
        self.assertEqual(seal_of(SHA, ("node", left, right)),
                         "d1aed2e77781759205eb39382031ffdd14bf35d1f3013049e0f786d18a1390e5")
        self.assertEqual(seal_of(SHA, NONE), "e3b0c44298fc1c149afbf4c8996fb92427ae41e4649b934ca495991b7852b855")

    def test_each_seal_is_one(self):
        for sealer in WEAK + (SHA, WHOLE):
            seals = [seal_of(sealer, matter) for matter in (NONE, LEAF, ("leaf", ""))]
            for left in seals:
                for right in seals:
                    told = seal_of(sealer, ("node", left, right))
                    self.assertIs(is_seal(sealer, told), True)
                    self.assertIs(is_matter(sealer, ("node", told, left)), True)

    def test_any_m_and_k(self):
        for m in range(2, 12):
            for k in range(0, 25):
                for matter in (NONE, ("leaf", ""), ("leaf", "x~"), ("node", m - 1, 1), ("node", 0, m - 1)):
                    self.assertEqual(seal_of(("weak", m, k), matter), weak_number(m, k, matter))

    def test_seals_that_come_of_seals_and_deep_ones(self):
        seal = seal_of(WHOLE, LEAF)
        for _ in range(100):
            seal = seal_of(WHOLE, ("node", seal, seal))
        self.assertIs(is_seal(WHOLE, seal), True)
        deep = listed(chain(150))
        before = copy.deepcopy(deep)
        self.assertEqual(repr(seal_of(WHOLE, deep)), repr(chain(150)))
        self.assertEqual(deep, before)

    def test_lists_in_one_half_alone(self):
        for matter in (("node", ["none"], ("none",)), ["node", ("none",), ["none"]], ("node", ["none"], ["none"])):
            self.assertEqual(repr(seal_of(list(WHOLE), matter)), repr(("node", NONE, NONE)))

    def test_lists_deep_within_tuples(self):
        for inner in (["leaf", "a"], ("node", LEAF, ["none"]), ("node", ["none"], NONE), ["node", LEAF, LEAF]):
            for outer in (("node", NONE, inner), ("node", inner, NONE), ("node", inner, inner), ("node", LEAF, inner)):
                for matter in (outer, ("node", NONE, outer), ("node", outer, outer)):
                    told = seal_of(WHOLE, matter)
                    self.assertEqual(listed(told), listed(matter))
                    self.assertNotIn("[", repr(told))
                    self.assertIs(is_seal(WHOLE, told), True)
                    self.assertIs(is_seal(WHOLE, matter), False)

    def test_lists_that_are_one_object(self):
        matter = ["leaf", "a"]
        for _ in range(100):
            matter = ["node", matter, matter]
        told = seal_of(WHOLE, matter)
        self.assertIs(is_seal(WHOLE, told), True)
        for _ in range(100):
            told = told[2]
        self.assertEqual(told, LEAF)

    def test_tuples_are_kept_as_they_are(self):
        # So what shares its parts is compared at once, however great it is.
        seal = twins(100)
        self.assertIs(seal_of(WHOLE, seal), seal)
        self.assertIs(seal_of(WHOLE, ["node", seal, NONE])[1], seal)

    def test_nested_values_are_no_seals_of_few_signs(self):
        for thing in (nested(0, 100), nested("a", 100, list), nested(NONE, 99)):
            for sealer in (SHA, WHOLE, FEW):
                check_thing(self, is_seal, thing, False, sealer)
                check_thing(self, is_matter, thing, False, sealer)
