"""Lies [12]."""

import itertools
import random
import unittest

from leafway.errors import CanNot, NoPlace, Unfit
from leafway.lies import changed, first_head, first_place, is_change, is_lie_paper, keeps, lie_clash, lie_paper, missed
from leafway.lies import search
from leafway.ways import clash_of, way, way_length
from tests.helper import check_call, check_thing, listed, odd_values, variants
from tests.reckoning import entry_form, entry_taken, leaf, number_from, own_crown, own_head, own_root, root_up
from tests.reckoning import told_entry
from tests.shown import clash_form

SHA, WHOLE, FEW = ("sha",), ("whole",), ("weak", 97, 5)
WEAKEST = ("weak", 2, 0)
SEALERS = (SHA, WHOLE, FEW, WEAKEST, ("weak", 10 ** 9, 10 ** 9))
LOG = ("ann 5", "bob 2", "cat 9", "dan 1", "eve 4")
LONG = tuple("entry " + str(at) for at in range(300))
TOP = 10 ** 18
POOL = (True, None, -1, 0, 1, 7, "", "b", "alter", "drop", (), ("none",), ("leaf", "a"), TOP)


def small_changes(size):
    """All changes with numbers from 0 to a little above size."""
    found = []
    for at in range(size + 3):
        found += [("alter", at, "new"), ("drop", at), ("cut", at), ("put", at, "new")]
        found += [("turn", at, other) for other in range(size + 3)]
    return found


def own_changed(log, change):
    """The log that comes of a change, or the first number that is wrong, as ("NoPlace", number)."""
    word, first, *more = change
    places = range(len(log) + (word in ("cut", "put")))
    numbers = [first] + (more if word == "turn" else [])
    wrong = [number for number in numbers if number not in places]
    if wrong:
        return "NoPlace", wrong[0]
    ahead, behind = log[:first], log[first + 1:]
    if word == "turn":
        return tuple(log[{first: more[0], more[0]: first}.get(at, at)] for at in range(len(log)))
    return {"alter": lambda: ahead + (more[0],) + behind, "drop": lambda: ahead + behind, "cut": lambda: ahead,
            "put": lambda: ahead + (more[0],) + log[first:]}[word]()


def change_form(thing):
    """Whether thing is a change [12]."""
    if type(thing) is not tuple or not thing or type(thing[0]) is not str:
        return False
    kinds = {"alter": "NE", "drop": "N", "turn": "NN", "cut": "N", "put": "NE"}.get(thing[0])
    if kinds is None or len(thing) != len(kinds) + 1:
        return False
    return all(number_from(0, own) if kind == "N" else entry_form(own) for kind, own in zip(kinds, thing[1:]))


def paper_form(sealer, thing):
    """Whether thing is a lie paper [12]."""
    if type(thing) is not tuple or len(thing) != 2 or not all(entry_taken(sealer, told) for told in thing):
        return False
    return thing[0][2] == thing[1][2] and thing[0][3] != thing[1][3]


def own_search(sealer, log, other):
    """The stretches that are compared, and the place, by the document's own words."""
    def gone_on(begin, end):
        if end - begin == 1:
            return [], begin
        middle = begin + own_crown(end - begin)
        half = (begin, middle) if unlike(begin, middle) else (middle, end)
        compared, place = gone_on(*half)
        return [(begin, middle)] + compared, place

    def unlike(begin, end):
        return own_root(sealer, log[begin:end]) != own_root(sealer, other[begin:end])

    size = min(len(log), len(other))
    if size == 0:
        return (), None
    if not unlike(0, size):
        return ((0, size),), None
    compared, place = gone_on(0, size)
    return ((0, size), *compared), place


class Changes(unittest.TestCase):

    def test_each_word_and_others(self):
        for thing in (("alter", 0, ""), ("alter", TOP, "a" * 200), ("drop", 0), ("turn", 0, 0), ("turn", TOP, 1),
                      ("cut", 0), ("cut", TOP), ("put", 3, "a")):
            check_thing(self, is_change, thing, True)
            for bent in variants(thing, POOL):
                check_thing(self, is_change, bent, change_form(bent))
        for thing in (("alter", 0), ("alter", 0, 1), ("alter", True, "a"), ("drop", -1), ("drop", 1, "a"), ("turn", 1),
                      ("turn", 1, False), ("cut", "1"), ("put", 1), ("put", 1, "a\n"), ("put", 1, "a" * 201),
                      ["drop", 0], ("grow", 1), (), "drop", None):
            check_thing(self, is_change, thing, False)

    def test_values_of_all_kinds(self):
        for thing in odd_values():
            check_thing(self, is_change, thing, change_form(thing))

    def test_each_change_of_small_logs(self):
        for size in range(5):
            log = LOG[:size]
            for change in small_changes(size):
                wanted = own_changed(log, change)
                if wanted[:1] == ("NoPlace",):
                    self.refused(log, change, wanted[1])
                else:
                    self.assertEqual(repr(check_call(self, changed, log, change)), repr(wanted))

    def refused(self, log, change, number):
        for own, made in ((log, change), (listed(log), listed(change))):
            with self.assertRaises(NoPlace) as caught:
                changed(own, made)
            self.assertEqual(caught.exception.place, number)

    def test_at_the_ends(self):
        for word, right, wrong in (("alter", (0, 299), (300, 301, TOP)), ("drop", (0, 299), (300, TOP)),
                                   ("cut", (0, 299, 300), (301, TOP)), ("put", (0, 299, 300), (301, TOP))):
            more = ("new",) if word in ("alter", "put") else ()
            for at in right:
                self.assertEqual(changed(LONG, (word, at, *more)), own_changed(LONG, (word, at, *more)))
            for at in wrong:
                self.refused(LONG, (word, at, *more), at)
        for change, number in ((("turn", 300, 301), 300), (("turn", 301, 300), 301), (("turn", 0, 300), 300),
                               (("turn", TOP, 0), TOP)):
            self.refused(LONG, change, number)
        self.refused(LOG, ("turn", 1, 5), 5)


class Places(unittest.TestCase):

    def test_examples(self):
        other = changed(LOG, ("alter", 2, "cat 8"))
        told = (first_place(LOG, other), first_head(FEW, LOG, other), first_place(LOG, LOG[:3]),
                first_head(FEW, LOG, LOG[:3]))
        self.assertEqual(told, (2, 3, 3, None))

    def test_all_small_logs(self):
        logs = [log for size in range(4) for log in itertools.product("ab", repeat=size)] + [LOG, LOG[:4]]
        for log, other in itertools.product(logs, repeat=2):
            unlike = [at for at in range(max(len(log), len(other))) if log[at:at + 1] != other[at:at + 1]]
            self.assertEqual(check_call(self, first_place, log, other), min(unlike, default=None))
            for sealer in (WHOLE, FEW, ("weak", 3, 1), WEAKEST):
                sizes = [size for size in range(min(len(log), len(other)) + 1)
                         if own_root(sealer, log[:size]) != own_root(sealer, other[:size])]
                self.assertEqual(check_call(self, first_head, sealer, log, other), min(sizes, default=None))

    def test_unlike_at_each_place(self):
        for sealer in (SHA, WHOLE, FEW):
            log = LONG[:40]
            for place in range(40):
                other = log[:place] + ("x",) + log[place + 1:]
                self.assertEqual(first_place(log, other), place)
                if sealer in (SHA, WHOLE):
                    self.assertEqual(first_head(sealer, log, other), place + 1)
        self.assertEqual(first_place(LONG, LONG[:299] + ("x",)), 299)
        self.assertEqual(first_head(WHOLE, LONG, LONG[:299] + ("x",)), 300)
        self.assertEqual((first_place(LONG, LONG), first_place(LONG, LONG[:299]), first_place((), LONG)),
                         (None, 299, 0))


class Keeps(unittest.TestCase):

    def test_examples(self):
        other = changed(LOG, ("alter", 2, "cat 8"))
        self.assertEqual(keeps(FEW, ((2, 84), (3, 58), (6, 1)), other), (True, False, False))
        told = [missed(WHOLE, LOG, own, (1, 3)) for own in (("cut", 3), ("cut", 2), ("turn", 3, 4))]
        self.assertEqual(told, [True, False, True])

    def test_keeps(self):
        for sealer in SEALERS:
            heads = [own_head(sealer, LOG[:size]) for size in range(6)] + [(size, leaf(sealer, "z"))
                                                                           for size in range(9)]
            heads += [(TOP, leaf(sealer, "z")), own_head(sealer, LOG + ("fay 7",)), own_head(sealer, LOG[1:])]
            for log in (LOG, LOG[:3], (), LOG[:2] + ("x",)):
                wanted = tuple(size <= len(log) and own_root(sealer, log[:size]) == top for size, top in heads)
                self.assertEqual(repr(check_call(self, keeps, sealer, heads, log)), repr(wanted))
            self.assertEqual(keeps(sealer, (), LOG), ())

    def test_missed(self):
        sizes = [own for length in range(4) for own in itertools.combinations(range(5), length)]
        for sealer in (WHOLE, ("weak", 5, 1), WEAKEST):
            for size in (0, 1, 4):
                log = LOG[:size]
                for change in small_changes(size):
                    other = own_changed(log, change)
                    for own in sizes:
                        self.check_missed(sealer, log, change, own, other)

    def check_missed(self, sealer, log, change, sizes, other):
        if other[:1] == ("NoPlace",):
            with self.assertRaises(NoPlace) as caught:
                missed(sealer, log, change, sizes)
            self.assertEqual(caught.exception.place, other[1])
        elif any(size > len(log) for size in sizes):
            self.assertRaises(Unfit, missed, sealer, log, change, sizes)
        else:
            wanted = all(size <= len(other) and own_root(sealer, other[:size]) == own_root(sealer, log[:size])
                         for size in sizes)
            self.assertIs(missed(sealer, log, change, list(sizes)), wanted)

    def test_a_change_is_missed_exactly_if_no_size_is_above_the_first_place(self):
        for change in small_changes(5):
            other = own_changed(LOG, change)
            for sizes in ((), (0,), (1,), (2, 3), (5,), (0, 4)) if other[:1] != ("NoPlace",) else ():
                place = first_place(LOG, other)
                self.assertIs(missed(WHOLE, LOG, change, sizes), place is None or all(size <= place for size in sizes))

    def test_calls(self):
        for sealer in SEALERS:
            for change in (("alter", 2, "x"), ("drop", 4), ("turn", 1, 1), ("cut", 5), ("put", 5, "x")):
                wanted = change[0] in ("turn", "cut", "put") or WEAKEST == sealer
                told = check_call(self, missed, sealer, LOG, change, (1, 5) if change[0] != "drop" else (5,))
                if sealer != WEAKEST:
                    self.assertIs(told, wanted)
        self.assertIs(missed(FEW, LONG, ("alter", 299, "x"), tuple(range(300))), True)


class Search(unittest.TestCase):

    def test_examples(self):
        other = changed(LOG, ("alter", 2, "cat 8"))
        self.assertEqual(search(WHOLE, LOG, other), (((0, 5), (0, 4), (0, 2), (2, 3)), 2))

    def test_all_small_logs(self):
        logs = [log for size in range(6) for log in itertools.product("ac" if size > 2 else "abc", repeat=size)]
        for sealer in (WHOLE, FEW, WEAKEST, ("weak", 3, 1)):
            for log, other in itertools.product(logs, repeat=2):
                result = search(sealer, log, other)
                self.assertEqual(repr(result), repr(own_search(sealer, log, other)))
                self.check_found(sealer, log, other, *result)

    def check_found(self, sealer, log, other, compared, place):
        """It never tells a place with like entries; by whole seals it tells the first place, if both have it."""
        size = min(len(log), len(other))
        if place is not None:
            self.assertNotEqual(log[place], other[place])
            self.assertEqual(len(compared), way_length(size, place) + 1)
        if sealer == WHOLE:
            first = first_place(log, other)
            self.assertEqual(place, first if first is not None and first < size else None)

    def test_long_logs(self):
        draw = random.Random(11)
        for sealer in (FEW, WHOLE, ("weak", 10 ** 9, 7)):
            for size in (1, 255, 256, 300):
                for _ in range(4):
                    place = draw.randrange(size)
                    other = LONG[:place] + ("x",) + LONG[place + 1:]
                    result = search(sealer, LONG[:size], other)
                    self.assertEqual(repr(result), repr(own_search(sealer, LONG[:size], other)))

    def test_calls(self):
        for sealer in SEALERS:
            for log, other in ((LOG, LOG), (LOG, LOG[:4] + ("x",)), ((), LOG), (LOG[:1], ("x",)), (("x",) + LOG, LOG)):
                result = check_call(self, search, sealer, log, other)
                self.assertEqual(repr(result), repr(own_search(sealer, log, other)))


class Papers(unittest.TestCase):

    def test_examples(self):
        other = changed(LOG, ("alter", 2, "cat 8"))
        self.assertEqual(repr(lie_paper(FEW, LOG, other)), repr(
            (("entry", (5, 84), 2, "cat 9", (22, 84, 75)), ("entry", (5, 34), 2, "cat 8", (22, 84, 75)))))
        weak = ("weak", 5, 0)
        paper = lie_paper(weak, ("a",), ("f",))
        told = (paper[1], is_lie_paper(weak, paper[::-1]), is_lie_paper(WHOLE, paper), lie_clash(weak, paper, ("a",)))
        self.assertEqual(told, (("entry", (1, 3), 0, "f", ()), True, False, (("leaf", "f"), ("leaf", "a"))))

    def test_papers_of_small_logs(self):
        logs = [log for size in range(4) for log in itertools.product("ac", repeat=size)] + [LOG, ("a", "b", "c")]
        for sealer in (WHOLE, FEW, WEAKEST):
            for log, other in itertools.product(logs, repeat=2):
                size = min(len(log), len(other))
                if log[:size] == other[:size]:
                    self.assertRaises(CanNot, lie_paper, sealer, log, other)
                else:
                    place = min(at for at in range(size) if log[at] != other[at])
                    wanted = told_entry(sealer, log, place), told_entry(sealer, other, place)
                    self.assertEqual(repr(lie_paper(sealer, log, other)), repr(wanted))
                    check_thing(self, is_lie_paper, wanted, True, sealer)

    def test_calls(self):
        for sealer in SEALERS:
            for log, other in ((LOG, LOG[:4] + ("x",)), (LOG, ("x",)), (LONG[:40], LONG[:39] + ("x", "y"))):
                paper = check_call(self, lie_paper, sealer, log, other)
                self.assertIs(paper_form(sealer, paper), True)
            self.assertRaises(CanNot, lie_paper, sealer, list(LOG), list(LOG[:3]))

    def test_bent_papers(self):
        for sealer in (WHOLE, WEAKEST, FEW):
            right = told_entry(sealer, ("a", "b"), 1), told_entry(sealer, ("a", "d", "c"), 1)
            for thing in variants(right, POOL):
                check_thing(self, is_lie_paper, thing, paper_form(sealer, thing), sealer)
            one, other, third = right[0], told_entry(sealer, ("a", "b"), 0), told_entry(sealer, ("a", "b", "e"), 1)
            for thing in ((one, other), (one, one), (one, third), (other, right[1])):
                check_thing(self, is_lie_paper, thing, False, sealer)

    def test_values_of_all_kinds(self):
        for thing in odd_values():
            for sealer in (SHA, WHOLE, FEW):
                check_thing(self, is_lie_paper, thing, paper_form(sealer, thing), sealer)

    def test_long_logs(self):
        for place in (0, 150, 299):
            other = LONG[:place] + ("x",) + LONG[place + 1:]
            for sealer in (WHOLE, FEW):
                paper = lie_paper(sealer, LONG, other)
                self.assertEqual(paper, (told_entry(sealer, LONG, place), told_entry(sealer, other, place)))
                self.assertIs(is_lie_paper(sealer, paper), True)


class Clashes(unittest.TestCase):

    def own_paper(self, sealer, place, entries, heads):
        """Taken things at one place under heads that meet them by chance."""
        found = []
        for entry, (size, top) in zip(entries, heads):
            ways = itertools.product(range(sealer[1]), repeat=way_length(size, place))
            right = [own for own in ways if root_up(sealer, size, place, entry, own) == top]
            found.append([("entry", (size, top), place, entry, own) for own in right])
        return found

    def test_weak_seals(self):
        count = 0
        for sealer in (WEAKEST, ("weak", 3, 1)):
            for log in itertools.product("abc", repeat=3):
                for sizes in ((1, 3), (3, 3), (2, 3), (3, 2)):
                    heads = [own_head(sealer, log[:size]) for size in sizes]
                    for entries in (("a", "c"), ("c", "d"), ("b", "a")):
                        for pair in list(itertools.product(*self.own_paper(sealer, 0, entries, heads)))[:6]:
                            self.check(sealer, pair, log)
                            count += 1
        self.assertGreater(count, 200)

    def check(self, sealer, pair, log):
        """Check the clash of a lie paper and a log with both heads, beside what clash_of tells."""
        told = pair[0] if pair[0][3] != log[0] else pair[1]
        size = told[1][0]
        wanted = clash_of(sealer, told[1], 0, (told[3], told[4]), (log[0], way(sealer, log, size, 0)))
        self.assertEqual(repr(lie_clash(sealer, pair, log)), repr(wanted))
        self.assertIs(clash_form(sealer, wanted), True)

    def test_calls(self):
        weak = ("weak", 5, 0)
        paper = lie_paper(weak, ("a",), ("f",))
        self.assertEqual(check_call(self, lie_clash, weak, paper, ("a",)), (("leaf", "f"), ("leaf", "a")))
        self.assertEqual(check_call(self, lie_clash, weak, paper, ("f", "b")), (("leaf", "a"), ("leaf", "f")))
        self.assertEqual(check_call(self, lie_clash, weak, paper, ("k",)), (("leaf", "a"), ("leaf", "k")))

    def test_what_is_no_paper_or_no_log_with_both_heads(self):
        weak = ("weak", 5, 0)
        paper = lie_paper(weak, ("a",), ("f",))
        for log in ((), ("b",), ("c", "a")):
            self.assertRaises(Unfit, lie_clash, weak, paper, log)
        right = lie_paper(WHOLE, LOG, LOG[:4] + ("x",))
        for log in (LOG, LOG[:4] + ("x",), ()):
            self.assertRaises(Unfit, lie_clash, WHOLE, right, log)
        for thing in odd_values() + variants(paper, POOL):
            if not paper_form(weak, tupled(thing)):
                self.assertRaises(Unfit, lie_clash, weak, thing, ("a",))


def tupled(value):
    """Return value with a tuple for each list in it: an argument may be given so."""
    return tuple(tupled(part) for part in value) if isinstance(value, (list, tuple)) else value


if __name__ == "__main__":
    unittest.main()
