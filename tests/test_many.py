"""Several entries at once [9]."""

import itertools
import random
import unittest

from leafway.errors import CanNot, NoPlace, Unfit
from leafway.many import is_all, is_many, many, many_length, many_stretches, root_by_many, thinned, united
from leafway.roots import head_of, root, seal_of_stretch
from leafway.ways import neighbours, way
from tests.helper import check_call, check_thing, listed, odd_values, variants
from tests.reckoning import GreatLog, all_taken, leaf, many_taken, own_beside, own_head, own_nodes, root_of_many
from tests.reckoning import sets_below, told_many

SHA, WHOLE, FEW = ("sha",), ("whole",), ("weak", 1000, 5)
WEAKEST = ("weak", 2, 0)
SEALERS = (SHA, WHOLE, FEW, WEAKEST, ("weak", 10 ** 9, 10 ** 9))
LONG = tuple("entry " + str(at) for at in range(300))
LOG = ("a", "b", "c", "d", "e", "f", "g", "h")
TOP = 10 ** 18
HUGE = (TOP, TOP - 1, 2 ** 59, 2 ** 59 - 1, 2 ** 59 + 1, 10 ** 17 + 12345)
POOL = (True, None, -1, 0, 1, 7, "", "b", "0" * 64, (), ("none",), ("leaf", "a"), (0, "a"), TOP)


def drawn_sets(size, seed=0):
    """Some sets of 1 to 40 places of size."""
    draw, found = random.Random(size + seed), []
    for length in (1, 1, 2, 3, 8, 40):
        near = draw.randrange(size)
        spread = (size, 100, 1000000)[length % 3]
        places = {min(size - 1, near + draw.randrange(spread)) for _ in range(length)}
        found.append(tuple(sorted(places)))
    return found + [(0,), (size - 1,), tuple(sorted({0, size - 1}))]


def great_many(sealer, size, places, more=()):
    """The told thing of a log too great to be told; what stands at more is told alike in all of them."""
    great = GreatLog(sealer, [edge for place in (*places, *more) for edge in (place, place + 1)])
    entries = tuple((place, great.entry(place)) for place in places)
    return "many", great.head(size), entries, great.seals(own_beside(0, size, places))


class Stretches(unittest.TestCase):

    def test_examples(self):
        told = (many_stretches(5, (1, 3)), many_stretches(7, (6,)), many_stretches(4, (0, 1, 2, 3)),
                many_length(TOP, (0, TOP - 1)))
        self.assertEqual(told, (((0, 1), (2, 3), (4, 5)), ((0, 4), (4, 6)), (), 99))
        with self.assertRaises(NoPlace) as caught:
            many_stretches(5, (3, 5))
        self.assertEqual(caught.exception.place, 5)

    def test_each_set_of_small_sizes(self):
        for size in range(1, 9):
            nodes = own_nodes(0, size)
            for places in sets_below(size):
                holding = [own for own in nodes if any(own[0] <= place < own[1] for place in places)]
                halves = {half for begin, end in holding if end - begin > 1 for half in own_halves(begin, end)}
                wanted = tuple(sorted(halves - set(holding)))
                self.assertEqual(repr(many_stretches(size, places)), repr(wanted))
                self.assertEqual(many_length(size, list(places)), len(wanted))
                covered = sorted(wanted + tuple((place, place + 1) for place in places))
                self.assertEqual(sum(end - begin for begin, end in covered), size)

    def test_one_place_has_its_neighbours(self):
        for size in (1, 2, 7, 40, 300, TOP):
            for place in {0, size - 1, size // 2}:
                self.assertEqual(many_stretches(size, (place,)), tuple(sorted(neighbours(size, place))))

    def test_great_sizes(self):
        for size in HUGE + (300, 255):
            for places in drawn_sets(size):
                wanted = own_beside(0, size, places)
                self.assertEqual(many_stretches(size, places), wanted)
                self.assertEqual(many_length(size, places), len(wanted))

    def test_calls(self):
        for size, places in ((1, (0,)), (5, (1, 3)), (8, (0, 7)), (TOP, (0, 5, TOP - 1))):
            self.assertEqual(repr(check_call(self, many_stretches, size, places)), repr(own_beside(0, size, places)))
            self.assertEqual(check_call(self, many_length, size, places), len(own_beside(0, size, places)))

    def test_places_that_are_not_there(self):
        cases = ((5, (5,), 5), (5, (0, 4, 5, 6), 5), (5, (-1,), -1), (5, (-3, -1, 7), -3), (1, (1,), 1),
                 (5, (-1, 2), -1), (TOP, (0, TOP), TOP), (TOP, (-TOP, TOP), -TOP), (8, (3, 9, 10), 9))
        for size, places, wanted in cases:
            entries = [(place, "a") for place in places]
            calls = [lambda: many_stretches(size, places), lambda: many_length(size, list(places)),
                     lambda: many(FEW, LOG, size, places), lambda: many(FEW, (), size, list(places)),
                     lambda: root_by_many(FEW, size, entries, ()), lambda: root_by_many(FEW, size, entries, (7,) * 90)]
            for call in calls:
                with self.assertRaises(NoPlace) as caught:
                    call()
                self.assertEqual(caught.exception.place, wanted)

    def test_no_places_at_all(self):
        for call in (lambda: many_stretches(5, ()), lambda: many_length(5, []), lambda: many(FEW, (), 5, ()),
                     lambda: root_by_many(FEW, 5, (), (7,)), lambda: thinned(FEW, many(FEW, LOG, 5, (1,)), ())):
            self.assertRaises(NoPlace, call)


def own_halves(begin, end):
    middle = begin + (1 << (end - begin - 1).bit_length() - 1)
    return (begin, middle), (middle, end)


class Many(unittest.TestCase):

    def test_examples(self):
        log = LOG[:5]
        told = many(FEW, log, 5, (1, 3))
        self.assertEqual((told, root_by_many(FEW, 5, told[2], told[3])),
                         (("many", (5, 937), ((1, "b"), (3, "d")), (883, 885, 887)), 937))
        wrong = told[:2] + (((1, "b"), (3, "c")), told[3])
        answers = (is_many(FEW, told), is_many(FEW, wrong), is_all(FEW, ("all", (5, 937), log)),
                   is_all(FEW, ("all", (5, 937), log[:4])))
        self.assertEqual(answers, (True, False, True, False))

    def test_each_set_of_small_sizes(self):
        for sealer in (WHOLE, FEW, WEAKEST):
            for size in range(1, 9):
                for places in sets_below(size):
                    wanted = told_many(sealer, LOG[:size], places)
                    told = many(sealer, LOG, size, places)
                    self.assertEqual(repr(told), repr(wanted))
                    self.assertIs(is_many(sealer, told), True)
                    self.assertEqual(repr(root_by_many(sealer, size, told[2], told[3])), repr(wanted[1][1]))

    def test_calls(self):
        for sealer in SEALERS:
            for size, places in ((1, (0,)), (2, (0, 1)), (5, (1, 3)), (7, (0, 5, 6)), (8, (4,))):
                wanted = told_many(sealer, LOG[:size], places)
                self.assertEqual(repr(check_call(self, many, sealer, LOG, size, places)), repr(wanted))
                told = check_call(self, root_by_many, sealer, size, wanted[2], wanted[3])
                self.assertEqual(repr(told), repr(wanted[1][1]))
                check_thing(self, is_many, wanted, True, sealer)

    def test_long_logs(self):
        for sealer in (WHOLE, FEW):
            for size in (255, 256, 257, 300):
                for places in drawn_sets(size):
                    told = many(sealer, LONG, size, places)
                    self.assertEqual(told[1:3], (head_of(sealer, LONG[:size]), tuple((at, LONG[at]) for at in places)))
                    wanted = [seal_of_stretch(sealer, LONG, own) for own in own_beside(0, size, places)]
                    self.assertEqual(told[3], tuple(wanted))
                    self.assertIs(is_many(sealer, told), True)

    def test_a_log_that_is_too_short(self):
        for size in (1, 2, 5, 8):
            for log in (LOG[:size - 1], (), []):
                for places in ((0,), (size - 1,), tuple(range(size))):
                    self.assertRaises(Unfit, many, FEW, log, size, places)

    def test_any_seals_of_great_sizes(self):
        for sealer in (WHOLE, FEW, WEAKEST, SHA):
            for size in HUGE[:1 if sealer == SHA else 4]:
                for places in drawn_sets(size)[:4 if sealer == SHA else 9]:
                    seals = tuple(leaf(sealer, str(at)) for at in range(len(own_beside(0, size, places))))
                    entries = tuple((place, "entry") for place in places)
                    told = root_by_many(sealer, size, entries, seals)
                    self.assertEqual(repr(told), repr(root_of_many(sealer, size, entries, seals)))
                    self.assertIs(is_many(sealer, ("many", (size, told), entries, seals)), True)
                    self.assertIs(is_many(sealer, ("many", (size, told), entries, seals[1:])), False)
                    self.assertIs(is_many(sealer, ("many", (size, told), entries, seals + seals[:1])), False)

    def test_deep_nodes(self):
        size = 2 ** 2000
        seals = tuple(at % 1000 for at in range(2000))
        told = root_by_many(FEW, size, ((5, "a"),), seals)
        self.assertIs(is_many(FEW, ("many", (size, told), ((5, "a"),), seals)), True)
        self.assertIs(is_many(FEW, ("many", (size, told), ((6, "a"),), seals)), False)

    def test_another_number_of_seals(self):
        for size, places in ((1, (0,)), (5, (1, 3)), (4, (0, 1, 2, 3)), (TOP, (0, 7))):
            length = len(own_beside(0, size, places))
            for own in (0, length - 1, length + 1, length + 50):
                if 0 <= own != length:
                    for seals in ((7,) * own, [7] * own):
                        self.assertRaises(Unfit, root_by_many, FEW, size, [(at, "a") for at in places], seals)


class Taken(unittest.TestCase):

    def test_changed_ones(self):
        for sealer in SEALERS:
            for size, places in ((1, (0,)), (2, (1,)), (5, (1, 3)), (7, (0, 2, 6))):
                word, head, entries, seals = right = told_many(sealer, LOG[:size], places)
                things = [(word, head, entries[:at] + ((own, text),) + entries[at + 1:], seals)
                          for at in range(len(entries)) for own in range(size) for text in ("z", entries[at][1])]
                things += [(word, head, entries, seals[:at] + (leaf(sealer, "z"),) + seals[at + 1:])
                           for at in range(len(seals))]
                things += [(word, (own, head[1]), entries, seals) for own in range(size + 3)]
                things += [(word, (size, leaf(sealer, "z")), entries, seals), (word, head, entries, seals + seals[:1]),
                           (word, head, entries, seals[1:]), (word, head, entries[::-1], seals),
                           (word, head, entries + entries[-1:], seals), (word, head, entries[1:], seals)]
                for thing in things:
                    wanted = many_taken(sealer, thing)
                    if sealer in (SHA, WHOLE) and thing != right and thing[1][0] == size:
                        self.assertIs(wanted, False)
                    check_thing(self, is_many, thing, wanted, sealer)

    def test_things_bent_in_one_part(self):
        for sealer in SEALERS:
            for size, places in ((1, (0,)), (3, (0, 2))):
                for thing in variants(told_many(sealer, LOG[:size], places), POOL):
                    check_thing(self, is_many, thing, many_taken(sealer, thing), sealer)
                for thing in variants(("all", head_of(sealer, LOG[:size]), LOG[:size]), POOL):
                    check_thing(self, is_all, thing, all_taken(sealer, thing), sealer)

    def test_values_of_all_kinds(self):
        for thing in odd_values():
            for sealer in (SHA, WHOLE, FEW):
                check_thing(self, is_many, thing, many_taken(sealer, thing), sealer)
                check_thing(self, is_all, thing, all_taken(sealer, thing), sealer)

    def test_far_greater_sizes(self):
        for size in (10 ** 5000, 2 ** 10 ** 6):
            for entries in (((0, "a"),), ((0, "a"), (5, "b"), (size - 1, "c"))):
                check_thing(self, is_many, ("many", (size, 7), entries, (7,) * 50), False, FEW)
        entries = tuple((at, "a") for at in range(3000))
        check_thing(self, is_many, ("many", (2 ** 40, 7), entries, (7,) * 5), False, FEW)
        self.assertIs(is_all(FEW, ("all", (10 ** 5000, 7), ("a",))), False)

    def test_all_entries(self):
        for sealer in SEALERS:
            for size in (0, 1, 2, 3, 8):
                head = own_head(sealer, LOG[:size])
                check_thing(self, is_all, ("all", head, LOG[:size]), True, sealer)
                for log in (LOG[:size + 1], LOG[:size - 1], ("z",) + LOG[1:size], LOG[:size] + ("",), list(LOG[:size])):
                    check_thing(self, is_all, ("all", head, log), all_taken(sealer, ("all", head, log)), sealer)
        self.assertIs(is_all(WHOLE, ("all", head_of(WHOLE, LONG), LONG)), True)
        self.assertIs(is_all(WHOLE, ("all", head_of(WHOLE, LONG), LONG[:-1])), False)
        self.assertIs(is_all(WHOLE, ("all", head_of(WHOLE, LONG), LONG + ("a",))), False)

    def test_what_is_taken_by_whole_seals_is_true(self):
        head, other = head_of(WHOLE, LOG[:4]), ("a", "z", "d", "c")
        for places in sets_below(4):
            for seals in (told_many(WHOLE, LOG[:4], places)[3], told_many(WHOLE, other, places)[3]):
                for entries in itertools.product("abcdz", repeat=len(places)):
                    thing = ("many", head, tuple(zip(places, entries)), seals)
                    self.assertIs(is_many(WHOLE, thing), thing == told_many(WHOLE, LOG[:4], places))


class Thinned(unittest.TestCase):

    def test_examples(self):
        told = many(FEW, LOG[:5], 5, (1, 3))
        self.assertEqual(thinned(FEW, told, (3,)), ("many", (5, 937), ((3, "d"),), (840, 885, 887)))
        with self.assertRaises(NoPlace) as caught:
            thinned(FEW, told, (2,))
        self.assertEqual(caught.exception.place, 2)

    def test_each_subset(self):
        for sealer in (WHOLE, FEW, WEAKEST):
            for size in range(1, 7):
                for places in sets_below(size):
                    told = told_many(sealer, LOG[:size], places)
                    for fewer in sets_below(size):
                        if set(fewer) <= set(places):
                            self.assertEqual(thinned(sealer, told, fewer), told_many(sealer, LOG[:size], fewer))
                        else:
                            first = min(set(fewer) - set(places))
                            self.refused(sealer, told, fewer, first)

    def refused(self, sealer, told, places, first):
        with self.assertRaises(NoPlace) as caught:
            thinned(sealer, told, places)
        self.assertEqual(caught.exception.place, first)

    def test_places_that_are_not_told(self):
        told = many(FEW, LOG[:5], 5, (1, 3))
        for places, first in (((-1,), -1), ((-5, 1), -5), ((1, 2, 4), 2), ((5,), 5), ((1, 3, TOP), TOP), ((0, 1), 0)):
            self.refused(FEW, told, places, first)
            self.refused(FEW, listed(told), list(places), first)

    def test_calls(self):
        for sealer in SEALERS:
            told = told_many(sealer, LOG[:7], (0, 2, 6))
            for fewer in ((0,), (2, 6), (0, 2, 6)):
                result = check_call(self, thinned, sealer, told, fewer)
                self.assertEqual(repr(result), repr(told_many(sealer, LOG[:7], fewer)))

    def test_great_sizes(self):
        for sealer in (WHOLE, FEW):
            for size in (TOP, 2 ** 59 + 1):
                for places in drawn_sets(size)[2:6]:
                    told, fewer = great_many(sealer, size, places), places[::3]
                    self.assertEqual(thinned(sealer, told, fewer), great_many(sealer, size, fewer, places))

    def test_what_is_not_taken(self):
        for sealer in SEALERS:
            word, head, entries, seals = told_many(sealer, LOG[:5], (1, 3))
            for thing in ((word, head, entries, seals[1:]), (word, head, entries, seals + seals[:1]),
                          (word, (5, leaf(sealer, "z")), entries, seals), (word, head, ((1, "b"), (3, "z")), seals)):
                if not many_taken(sealer, thing):
                    for places in ((1,), (2,), (-1,)):
                        self.assertRaises(Unfit, thinned, sealer, thing, places)
                        self.assertRaises(Unfit, thinned, sealer, listed(thing), places)


class United(unittest.TestCase):

    def test_example(self):
        log = LOG[:5]
        told = many(FEW, log, 5, (1, 3))
        self.assertEqual(united(FEW, many(FEW, log, 5, (1,)), many(FEW, log, 5, (3,))), told)

    def test_each_two_sets(self):
        for sealer in (WHOLE, FEW):
            for size in range(1, 6):
                table = {places: told_many(sealer, LOG[:size], places) for places in sets_below(size)}
                for one in table:
                    for other in table:
                        both = tuple(sorted(set(one) | set(other)))
                        self.assertEqual(united(sealer, table[one], table[other]), table[both])

    def test_calls(self):
        for sealer in SEALERS:
            for one, other in (((0,), (0,)), ((0,), (6,)), ((1, 4), (2, 3, 6))):
                both = tuple(sorted(set(one) | set(other)))
                told = [told_many(sealer, LOG[:7], places) for places in (one, other, both)]
                self.assertEqual(repr(check_call(self, united, sealer, told[0], told[1])), repr(told[2]))

    def test_great_sizes(self):
        for sealer in (WHOLE, FEW):
            for size in (TOP, 2 ** 59 + 1):
                for one, other in zip(drawn_sets(size)[:6], drawn_sets(size, 1)):
                    both = tuple(sorted(set(one) | set(other)))
                    told = [great_many(sealer, size, places, both) for places in (one, other, both)]
                    self.assertEqual(united(sealer, told[0], told[1]), told[2])

    def test_what_is_not_taken_and_unlike_heads(self):
        for sealer in (SHA, WHOLE, FEW):
            right, other = told_many(sealer, LOG[:5], (1,)), told_many(sealer, LOG[:5], (3, 4))
            bad = right[:3] + (right[3][1:],)
            worse = right[:2] + (((1, "z"),), right[3])
            bigger, unlike = told_many(sealer, LOG[:6], (1,)), told_many(sealer, ("z",) + LOG[1:5], (1,))
            for wrong in (bad, worse, bigger, unlike):
                for pair in ((wrong, other), (other, wrong), (listed(other), listed(wrong))):
                    self.assertRaises(Unfit, united, sealer, *pair)
            self.assertRaises(Unfit, united, sealer, bad, bad)

    def test_unlike_entries_at_one_place(self):
        log, other = ("a", "b", "a"), ("c", "b", "a")
        self.assertEqual(root(WEAKEST, log), root(WEAKEST, other))
        for places, wanted in (((0,), CanNot), ((0, 1), CanNot), ((1,), None), ((1, 2), None)):
            one, two = many(WEAKEST, log, 3, places), many(WEAKEST, other, 3, places)
            if wanted is None:
                self.assertEqual(united(WEAKEST, one, two), one)
            else:
                self.assertRaises(wanted, united, WEAKEST, one, two)
                self.assertRaises(wanted, united, WEAKEST, listed(two), listed(one))

    def test_weak_seals(self):
        seen = {"taken": 0, "entries": 0, "seals": 0, "untaken": 0}
        for sealer in (WEAKEST, ("weak", 2, 1), ("weak", 3, 1)):
            for size in (2, 3, 5):
                things = self.taken_things(sealer, size)
                for one in things:
                    for other in things:
                        seen[self.check_united(sealer, size, one, other)] += 1
        self.assertGreater(min(seen.values()), 20)

    def taken_things(self, sealer, size):
        """Taken things under one head, with any seals."""
        draw, found = random.Random(size), []
        for places in sets_below(size):
            for _ in range(12):
                entries = tuple((place, draw.choice("abc")) for place in places)
                seals = tuple(draw.randrange(sealer[1]) for _ in own_beside(0, size, places))
                if root_of_many(sealer, size, entries, seals) == 1:
                    found.append(("many", (size, 1), entries, seals))
        return draw.sample(found, min(40, len(found)))

    def check_united(self, sealer, size, one, other):
        """Check united by an own reckoning; tell what comes."""
        table, seals = dict(one[2]), dict(zip(own_beside(0, size, dict(one[2])), one[3]))
        other_seals = dict(zip(own_beside(0, size, dict(other[2])), other[3]))
        if any(table.get(place, entry) != entry for place, entry in other[2]):
            self.assertRaises(CanNot, united, sealer, one, other)
            return "entries"
        if any(seals.get(own, seal) != seal for own, seal in other_seals.items()):
            self.assertRaises(CanNot, united, sealer, one, other)
            return "seals"
        table.update(other[2])
        seals.update(other_seals)
        beside = own_beside(0, size, table)
        wanted = ("many", one[1], tuple(sorted(table.items())), tuple(seals[own] for own in beside))
        if not many_taken(sealer, wanted):
            self.assertRaises(CanNot, united, sealer, one, other)
            return "untaken"
        self.assertEqual(united(sealer, one, other), wanted)
        return "taken"


class WithWays(unittest.TestCase):

    def test_one_entry_is_told_by_the_seals_of_its_way(self):
        for sealer in (WHOLE, FEW):
            for size in (1, 2, 5, 8):
                for place in range(size):
                    told = many(sealer, LOG, size, (place,))
                    seals = dict(zip(neighbours(size, place), way(sealer, LOG, size, place)))
                    self.assertEqual(dict(zip(many_stretches(size, (place,)), told[3])), seals)

    def test_all_entries_need_no_seals(self):
        for size in range(1, 9):
            told = many(FEW, LOG, size, tuple(range(size)))
            self.assertEqual(told, ("many", head_of(FEW, LOG[:size]), tuple(enumerate(LOG[:size])), ()))


if __name__ == "__main__":
    unittest.main()
