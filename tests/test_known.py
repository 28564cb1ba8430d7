"""What is known [10]."""

import itertools
import random
import unittest

from leafway.errors import Unfit
from leafway.known import fills, is_clash, is_taken, is_true, needed, opens, put_together, rising, tells
from tests.helper import check_call, check_thing, listed, odd_values, variants
from tests.reckoning import GreatLog, leaf, own_beside, own_head, own_nodes, own_rise, own_root, own_way
from tests.reckoning import told_all, told_entry, told_many, told_rise
from tests.shown import all_nodes, all_things, chance_things, clash_form, heads_in, own_fills, own_known, own_needed
from tests.shown import own_rising, own_told, own_true, taken, two_clash

SHA, WHOLE, FEW = ("sha",), ("whole",), ("weak", 1000, 5)
WEAKEST = ("weak", 2, 0)
SEALERS = (SHA, WHOLE, FEW, WEAKEST, ("weak", 10 ** 9, 10 ** 9))
LOG = ("a", "b", "c", "d", "e", "f", "g", "h")
LONG = tuple("entry " + str(at) for at in range(300))
TOP = 10 ** 18
POOL = (True, None, -1, 0, 1, 7, "", "b", "0" * 64, (), ("none",), ("leaf", "a"), TOP)
A, B, C = ("leaf", "a"), ("leaf", "b"), ("leaf", "c")
AB = ("node", A, B)
HEAD = (3, ("node", AB, C))
LAST, FIRST, ROSE = ("entry", HEAD, 2, "c", (AB,)), ("entry", HEAD, 0, "a", (B, C)), ("rise", (2, AB), HEAD, (C,))


def each_word(sealer, log):
    """One told thing of each word."""
    size = len(log)
    return (told_entry(sealer, log, size // 2), told_rise(sealer, log, size - 1, size),
            told_many(sealer, log, (0, size - 1)), told_all(sealer, log))


def great_things(sealer, size, many, seed=0):
    """Things that show a log of a great size: entries, several at once, and rises from lesser heads to its head."""
    draw = random.Random(seed)
    near = [draw.randrange(size // 2, size - 50) for _ in range(many)]
    places = [tuple(sorted({own + draw.randrange(40) for _ in range(8)})) for own in near]
    great = GreatLog(sealer, [edge for own in places for place in own for edge in (place, place + 1)])
    head, found = great.head(size), []
    for at, own in enumerate(places):
        if at % 3 == 0:
            found.append(("entry", head, own[0], great.entry(own[0]), great.seals(own_way(size, own[0]))))
        elif at % 3 == 1:
            entries = tuple((place, great.entry(place)) for place in own)
            found.append(("many", head, entries, great.seals(own_beside(0, size, own))))
        else:
            old = own[0] + 1
            found.append(("rise", great.head(old), head, great.seals(own_rise(old, size))))
            below = great.seals(own_way(old, own[0]))
            found.append(("entry", great.head(old), own[0], great.entry(own[0]), below))
    return head, tuple(found[:many])


class Taken(unittest.TestCase):

    def test_examples(self):
        self.assertIs(is_taken(WHOLE, ("entry", HEAD, 1, "a", (A, C))), False)

    def test_each_word_taken_and_bent(self):
        for sealer in SEALERS:
            for log in (LOG[:2], LOG[:3]):
                for told in each_word(sealer, log):
                    check_thing(self, is_taken, told, True, sealer)
                    for thing in variants(told, POOL):
                        check_thing(self, is_taken, thing, taken(sealer, thing), sealer)

    def test_the_empty_log(self):
        for sealer in SEALERS:
            check_thing(self, is_taken, told_all(sealer, ()), True, sealer)
            check_thing(self, is_taken, ("all", (0, leaf(sealer, "z")), ()), taken(sealer, told_all(sealer, ()))
                        and own_root(sealer, ()) == leaf(sealer, "z"), sealer)

    def test_values_of_all_kinds(self):
        for thing in odd_values():
            for sealer in (SHA, WHOLE, FEW):
                check_thing(self, is_taken, thing, taken(sealer, thing), sealer)


class Tells(unittest.TestCase):

    def test_examples(self):
        self.assertEqual(tells(WHOLE, LAST), (((0, 2), AB), ((0, 3), HEAD[1]), ((2, 3), C)))
        self.assertEqual(opens(WHOLE, LAST), (((0, 3), ("node", AB, C)), ((2, 3), C)))

    def check(self, sealer, told, nodes=None):
        seals, matters = own_told(sealer, told, nodes)
        self.assertEqual(repr(tells(sealer, told)), repr(seals))
        self.assertEqual(repr(opens(sealer, told)), repr(matters))

    def test_what_logs_show(self):
        nodes = all_nodes(12)
        for sealer in (WHOLE, FEW, WEAKEST):
            for told in all_things(sealer, LOG[:6]):
                self.check(sealer, told, nodes)

    def test_whatever_nodes_of_other_sizes_come(self):
        told = told_all(WHOLE, LOG)
        stretches = [stretch for stretch, _ in tells(WHOLE, told)]
        wanted = sorted({own for size in range(1, 30) for own in own_nodes(0, size) if own[1] <= 8})
        self.assertEqual(stretches, wanted)
        self.assertEqual([stretch for stretch, _ in opens(WHOLE, told)], wanted)
        for stretch, seal in tells(WHOLE, told):
            self.assertEqual(seal, own_root(WHOLE, LOG[stretch[0]:stretch[1]]))

    def test_chance_seals(self):
        nodes = all_nodes(20)
        for sealer in (WEAKEST, ("weak", 3, 1), WHOLE, SHA):
            for told in chance_things(sealer, 9, 30 if sealer == SHA else 150, 1):
                self.assertIs(taken(sealer, told), True)
                self.check(sealer, told, nodes)

    def test_great_sizes(self):
        for sealer in (FEW, WHOLE, WEAKEST):
            for size in (TOP, 2 ** 59 + 1):
                for told in great_things(sealer, size, 4)[1]:
                    self.check(sealer, told)
        for told in great_things(SHA, 10 ** 9, 4)[1]:
            self.check(SHA, told)

    def test_heads_alone(self):
        for sealer in SEALERS:
            self.assertEqual((tells(sealer, told_all(sealer, ())), opens(sealer, told_all(sealer, ()))), ((), ()))
            told = told_rise(sealer, LOG, 5, 5)
            self.assertEqual((tells(sealer, told), opens(sealer, told)), ((((0, 5), told[1][1]),), ()))

    def test_calls(self):
        for sealer in SEALERS:
            for told in each_word(sealer, LOG[:5]):
                seals, matters = own_told(sealer, told)
                self.assertEqual(repr(check_call(self, tells, sealer, told)), repr(seals))
                self.assertEqual(repr(check_call(self, opens, sealer, told)), repr(matters))

    def test_what_is_not_taken(self):
        for sealer in (SHA, WHOLE, FEW):
            for word, head, *more in each_word(sealer, LOG[:5]):
                told = (word, (head[0], leaf(sealer, "unlike")), *more)
                for function in (tells, opens):
                    self.assertRaises(Unfit, function, sealer, told)
                    self.assertRaises(Unfit, function, sealer, listed(told))


class Rising(unittest.TestCase):

    def test_examples(self):
        self.assertEqual(rising((ROSE, LAST), HEAD), ((2, AB), HEAD))

    def test_none_one_and_chains(self):
        for sealer in SEALERS:
            rises = [told_rise(sealer, LOG, old, size) for old, size in ((1, 3), (3, 5), (5, 5), (5, 8), (2, 7))]
            heads = [own_head(sealer, LOG[:size]) for size in range(9)]
            for length in range(4):
                for things in itertools.permutations(rises, length):
                    for head in (heads[0], heads[3], heads[8]):
                        self.assertEqual(repr(rising(things, head)), repr(own_rising(things, head)))
            self.assertEqual(rising((), heads[8]), (heads[8],))
            self.assertEqual(rising(rises[:1] + list(each_word(sealer, LOG[:3])), heads[3]),
                             (heads[1], heads[2], heads[3]))
            self.assertEqual(rising(rises[::-1], heads[8]), tuple(heads[own] for own in (1, 3, 5, 8)))
            self.assertEqual(rising(rises, heads[0]), (heads[0],))

    def test_rises_that_are_not_taken(self):
        low, other, high = (2, 7), (4, 8), (4, 9)
        things = (("rise", low, other, ()), ("rise", other, high, (1, 2, 3)), ("rise", high, other, ()))
        self.assertEqual(rising(things, high), (low, other, high))
        self.assertEqual(rising(things[:2], other), (low, other))
        self.assertEqual(rising(things, low), (low,))
        self.assertEqual(rising(things, (4, 10)), ((4, 10),))

    def test_a_long_chain(self):
        heads = [(size, size % 7) for size in range(1, 61)]
        things = [("rise", old, head, ()) for old, head in zip(heads, heads[1:])]
        random.Random(1).shuffle(things)
        self.assertEqual(rising(things, heads[-1]), tuple(heads))

    def test_calls(self):
        for sealer in SEALERS:
            things = (told_rise(sealer, LOG, 3, 5), told_entry(sealer, LOG[:3], 1), told_rise(sealer, LOG, 2, 3))
            result = check_call(self, rising, things, own_head(sealer, LOG[:5]))
            self.assertEqual(repr(result), repr(tuple(own_head(sealer, LOG[:own]) for own in (2, 3, 5))))


class PutTogether(unittest.TestCase):

    def test_examples(self):
        word, known = put_together(WHOLE, HEAD, (LAST, FIRST, ROSE, ("entry", (2, AB), 0, "a", (B,))))
        self.assertEqual((word, [own[0] for own in known[1]], known[2], needed(known)),
                         ("known", [(0, 1), (0, 2), (0, 3), (1, 2), (2, 3)], ((0, "a"), (2, "c")), ((1, 2),)))
        logs = (("a", "b", "c"), ("a", "x", "c"), ("a", "b"))
        self.assertEqual([fills(WHOLE, known, own) for own in logs], [True, False, False])
        self.assertIs(is_true(WHOLE, ROSE, ("a", "b", "c")), True)
        clash = put_together(WEAKEST, (1, 0), [("entry", (1, 0), 0, own, ()) for own in "ac"])
        self.assertEqual((clash[0], is_clash(WEAKEST, clash[1:]), is_clash(WHOLE, (A, B)),
                          needed(put_together(WHOLE, HEAD, ())[1])), ("clash", True, False, ((0, 3),)))
        self.assertRaises(Unfit, put_together, WHOLE, HEAD, (("entry", (2, AB), 0, "a", (B,)),))

    def test_what_logs_show(self):
        for sealer in (WHOLE, FEW, SHA):
            things = all_things(sealer, LOG[:5])
            draw = random.Random(2)
            rises = [told_rise(sealer, LOG, old, 5) for old in range(1, 5)]
            for many in (0, 1, 2, 5, 12):
                own = [told for told in draw.sample(things, many) if told[1][0] > 0]
                result = put_together(sealer, own_head(sealer, LOG[:5]), own + rises)
                wanted = own_known(sealer, own_head(sealer, LOG[:5]), own + rises)
                self.assertEqual(repr(result), repr(("known", wanted)))

    def test_nothing_and_the_head_of_size_0(self):
        for sealer in SEALERS:
            for size in range(4):
                head = own_head(sealer, LOG[:size])
                wanted = (head, (((0, size), head[1]),) if size > 0 else (), ())
                self.assertEqual(put_together(sealer, head, ()), ("known", wanted))
            self.assertEqual(put_together(sealer, (0, leaf(sealer, "z")), []),
                             ("known", ((0, leaf(sealer, "z")), (), ())))
            none = own_head(sealer, ())
            self.assertEqual(put_together(sealer, none, [told_all(sealer, ())]), ("known", (none, (), ())))
            self.assertRaises(Unfit, put_together, sealer, own_head(sealer, LOG), [told_all(sealer, ())])

    def test_weak_seals(self):
        """Beside an own reckoning: what is told is a clash exactly if two clash; otherwise all tell one seal."""
        seen = {"known": 0, "clash": 0, "Unfit": 0}
        for sealer in (WEAKEST, ("weak", 2, 1), ("weak", 3, 1), ("weak", 5, 2)):
            for size in (1, 2, 3, 5):
                things = [told for told in chance_things(sealer, size, 500, size) if told[-2][0] == size
                          or told[0] == "rise" or told[1] == (size, 1)]
                draw = random.Random(size)
                for _ in range(60):
                    own = self.risen(draw.sample(things, min(len(things), 40)), (size, 1), draw.randrange(2, 6))
                    seen[self.check(sealer, (size, 1), own)] += 1
                for _ in range(5):
                    seen[self.check(sealer, (size, 1), draw.sample(things, 2))] += 1
        self.assertGreater(min(seen.values()), 20, seen)

    def risen(self, things, head, many):
        """Some of things, all heads of which rise to head by them."""
        chosen = []
        for _ in range(3):
            for told in things:
                heads = own_rising(chosen + [told], head)
                if len(chosen) < many and told not in chosen and all(own in heads for own in heads_in(told)):
                    chosen.append(told)
        return chosen

    def check(self, sealer, head, things):
        """Check put_together; tell what comes."""
        if not all(own in own_rising(things, head) for told in things for own in heads_in(told)):
            self.assertRaises(Unfit, put_together, sealer, head, things)
            return "Unfit"
        tellings = [own_told(sealer, told) for told in things]
        clashing = any(two_clash(sealer, *two) for two in itertools.combinations(tellings, 2))
        result = put_together(sealer, head, things)
        if clashing:
            self.check_clash(sealer, tellings, result)
            return "clash"
        known = own_known(sealer, head, things)
        self.assertEqual(repr(result), repr(("known", known)))
        self.assertEqual(len(dict(known[1])), len(known[1]))
        self.assertEqual(len(dict(known[2])), len(known[2]))
        self.assertEqual(repr(needed(known)), repr(own_needed(known)))
        return "known"

    def check_clash(self, sealer, tellings, result):
        """Check that result is a clash by which two of tellings open one stretch."""
        word, one, other = result
        self.assertEqual(word, "clash")
        self.assertIs(clash_form(sealer, (one, other)), True)
        self.assertIs(is_clash(sealer, result[1:]), True)
        opened = [{stretch for telling in tellings for stretch, matter in telling[1] if matter == own}
                  for own in (one, other)]
        self.assertTrue(opened[0] & opened[1])

    def test_logs_fill_it_exactly_if_nothing_clashes_with_the_whole_log(self):
        """The main guarantee: of each log that fills what is known all is true."""
        logs = [log for size in range(4) for log in itertools.product("abc", repeat=size)]
        for sealer in (WEAKEST, ("weak", 3, 1)):
            for size in (1, 2, 3):
                things = self.risen(chance_things(sealer, size, 300, 7), (size, 1), 3)
                word, *told = put_together(sealer, (size, 1), things)
                for log in logs if word == "known" else ():
                    right = own_head(sealer, log) == (size, 1)
                    joint = put_together(sealer, (size, 1), things + [told_all(sealer, log)])[0] if right else "clash"
                    self.assertIs(fills(sealer, told[0], log), joint == "known")
                    if joint == "known":
                        self.assertTrue(all(is_true(sealer, one, log) for one in things))

    def test_what_is_not_taken_and_heads_that_do_not_rise(self):
        for sealer in (SHA, WHOLE, FEW):
            head, other = own_head(sealer, LOG[:5]), own_head(sealer, ("z",) + LOG[1:5])
            right = each_word(sealer, LOG[:5])
            bad = ("entry", head, 0, "z", right[0][4])
            lesser = told_entry(sealer, LOG[:3], 1)
            for things in ((bad,), right + (bad,), (right[0], lesser), (told_rise(sealer, LOG, 4, 6),), (bad, lesser),
                           (lesser, told_rise(sealer, LOG, 2, 5)), (told_entry(sealer, LOG[:6], 1),)):
                self.assertRaises(Unfit, put_together, sealer, head, things)
                self.assertRaises(Unfit, put_together, sealer, listed(head), listed(things))
            self.assertRaises(Unfit, put_together, sealer, other, right)
            self.assertRaises(Unfit, put_together, sealer, own_head(sealer, ()), right)
            risen = (lesser, told_rise(sealer, LOG, 3, 4), told_rise(sealer, LOG, 4, 5))
            self.assertEqual(put_together(sealer, head, risen), ("known", own_known(sealer, head, risen)))

    def test_calls(self):
        for sealer in SEALERS:
            things = each_word(sealer, LOG[:5]) + (told_entry(sealer, LOG[:4], 2),)
            result = check_call(self, put_together, sealer, own_head(sealer, LOG[:5]), things)
            self.assertEqual(repr(result), repr(("known", own_known(sealer, own_head(sealer, LOG[:5]), things))))
        self.assertEqual(check_call(self, put_together, WEAKEST, (1, 0),
                                    [("entry", (1, 0), 0, own, ()) for own in "ac"]),
                         ("clash", A, C))

    def test_at_the_bounds(self):
        for sealer in (WHOLE, FEW):
            head, things = great_things(sealer, TOP, 60)
            self.assertEqual(len(things), 60)
            word, known = put_together(sealer, head, things)
            self.assertEqual(word, "known")
            self.assertEqual(repr(known[2]), repr(self.entries(things)))
            self.assertIs(fills(sealer, known, LOG), False)
            self.assertEqual(needed(known), own_needed(known))

    def entries(self, things):
        found = {}
        for told in things:
            found.update({"entry": lambda: {told[2]: told[3]}, "many": lambda: dict(told[2]), "rise": dict}[told[0]]())
        return tuple(sorted(found.items()))

    def test_ways_of_130_seals(self):
        size, places = TOP - 1, (0, 2 ** 55 + 1, TOP // 2, TOP - 3)
        stretches = own_beside(0, size, places)
        self.assertGreaterEqual(len(stretches), 130)
        great = GreatLog(WHOLE, [edge for place in places for edge in (place, place + 1)])
        entries = tuple((place, great.entry(place)) for place in places)
        told = ("many", great.head(size), entries, great.seals(stretches))
        word, known = put_together(WHOLE, great.head(size), (told,))
        self.assertEqual((word, known), ("known", own_known(WHOLE, great.head(size), (told,))))

    def test_great_halves_that_are_one_object(self):
        """A log of 2^59 like entries: each seal has one object for both halves, at 59 levels."""
        seals = [A]
        for _ in range(59):
            seals.append(("node", seals[-1], seals[-1]))
        head, places = (2 ** 59, seals[59]), (0, 7, 2 ** 58)
        beside = tuple(seals[(end - begin).bit_length() - 1] for begin, end in own_beside(0, 2 ** 59, places))
        old = (2 ** 58 + 2 ** 57, ("node", seals[58], seals[57]))
        rise = tuple(seals[(end - begin).bit_length() - 1] for begin, end in own_rise(old[0], 2 ** 59))
        things = (("entry", head, 5, "a", tuple(seals[:59])), ("many", head, tuple((at, "a") for at in places), beside),
                  ("rise", old, head, rise))
        word, known = put_together(WHOLE, head, things)
        self.assertEqual((word, known[2]), ("known", ((0, "a"), (5, "a"), (7, "a"), (2 ** 58, "a"))))
        self.assertEqual(len(needed(known)), len(own_needed(known)))
        self.assertIs(fills(WHOLE, known, LOG), False)

    def test_long_logs(self):
        things = [told_all(FEW, LONG), told_all(FEW, LONG[:299]), told_rise(FEW, LONG, 299, 300)]
        word, known = put_together(FEW, own_head(FEW, LONG), things)
        self.assertEqual((word, needed(known), known[2]), ("known", (), tuple(enumerate(LONG))))
        self.assertIs(fills(FEW, known, LONG), True)
        self.assertIs(fills(FEW, known, LONG[:150] + ("x",) + LONG[151:]), False)
        things = [told_all(SHA, LONG[:40]), told_rise(SHA, LONG, 39, 40)]
        word, known = put_together(SHA, own_head(SHA, LONG[:40]), things)
        self.assertEqual((word, needed(known), fills(SHA, known, LONG[:40])), ("known", (), True))


class Clash(unittest.TestCase):

    def test_pairs(self):
        for sealer in SEALERS:
            matters = [("none",), ("leaf", ""), A, B, C, ("leaf", "d")]
            matters += [("node", leaf(sealer, one), leaf(sealer, other)) for one, other in ("ab", "ba", "cb")]
            for pair in itertools.product(matters, repeat=2):
                check_thing(self, is_clash, pair, clash_form(sealer, pair), sealer)
        check_thing(self, is_clash, (A, C), True, WEAKEST)
        check_thing(self, is_clash, (A, A), False, WEAKEST)
        check_thing(self, is_clash, (A, B), False, WEAKEST)

    def test_bent_and_of_all_kinds(self):
        for thing in variants((A, C), POOL) + variants((("node", 1, 0), C), POOL):
            check_thing(self, is_clash, thing, clash_form(WEAKEST, thing), WEAKEST)
        for thing in odd_values():
            for sealer in (SHA, WHOLE, WEAKEST):
                check_thing(self, is_clash, thing, clash_form(sealer, thing), sealer)


class True_(unittest.TestCase):

    def test_what_is_shown_of_one_log(self):
        others = (LOG[:5], LOG[:4], LOG[:6], ("z",) + LOG[1:5], LOG[:4] + ("z",), LOG[:2] + ("z",) + LOG[3:5], (), LOG)
        for sealer in (WHOLE, FEW, SHA):
            for told in all_things(sealer, LOG[:3]) + list(each_word(sealer, LOG[:5])):
                for log in others:
                    self.assertIs(is_true(sealer, told, log), own_true(sealer, told, log))
                self.assertIs(is_true(sealer, told, LOG), True)

    def test_weak_seals(self):
        logs = [log for size in range(4) for log in itertools.product("abcd", repeat=size)]
        seen = []
        for sealer in (WEAKEST, ("weak", 3, 1)):
            for told in chance_things(sealer, 3, 60, 3):
                for log in logs:
                    seen.append(own_true(sealer, told, log))
                    self.assertIs(is_true(sealer, told, log), seen[-1])
        self.assertGreater(min(seen.count(True), seen.count(False)), 100)

    def test_calls_and_what_is_not_taken(self):
        for sealer in SEALERS:
            for told in each_word(sealer, LOG[:5]):
                self.assertIs(check_call(self, is_true, sealer, told, LOG), True)
        for told in (LAST[:3] + ("b",) + LAST[4:], LAST[:4] + ((),), ("all", HEAD, ("a", "b", "d"))):
            self.assertRaises(Unfit, is_true, WHOLE, told, ("a", "b", "c"))
            self.assertRaises(Unfit, is_true, WHOLE, listed(told), [])

    def test_great_sizes(self):
        for sealer in (WHOLE, FEW):
            for told in great_things(sealer, TOP, 4)[1]:
                self.assertIs(is_true(sealer, told, LONG), False)


class Fills(unittest.TestCase):

    def test_right_ones_and_others(self):
        for sealer in SEALERS:
            for size in range(6):
                log = LOG[:size]
                head = own_head(sealer, log)
                things = [told for told in all_things(sealer, log) if told[1] == head and told[0] != "rise"]
                for told in things[:1] + things[1::3]:
                    known = own_known(sealer, head, [told])
                    self.assertIs(fills(sealer, known, log), True)
                    for other in (log[:-1], log + ("z",), ("z",) + log[1:], log[:-1] + ("z",), ()):
                        self.assertIs(fills(sealer, known, other), own_fills(sealer, known, other))
                lesser = own_known(sealer, own_head(sealer, log[:-1]), ())
                self.assertIs(fills(sealer, lesser, log), size == 0)

    def test_any_stretches(self):
        for sealer in (WHOLE, FEW, WEAKEST):
            log = LOG[:7]
            seals = tuple(((begin, end), own_root(sealer, log[begin:end]))
                          for begin, end in itertools.combinations(range(8), 2))
            known = (own_head(sealer, log), seals, tuple(enumerate(log)))
            self.assertIs(check_call(self, fills, sealer, known, log), True)
            for at, (stretch, seal) in enumerate(seals):
                unlike = leaf(sealer, "z") if sealer == WHOLE else (seal + 1) % sealer[1]
                wrong = (known[0], seals[:at] + ((stretch, unlike),) + seals[at + 1:], ())
                self.assertIs(fills(sealer, wrong, log), False)
            for at in range(7):
                wrong = (known[0], (), known[2][:at] + ((at, "z"),) + known[2][at + 1:])
                self.assertIs(fills(sealer, wrong, log), False)
            self.assertIs(fills(sealer, ((7, leaf(sealer, "zz")), (), ()), log),
                          leaf(sealer, "zz") == known[0][1])

    def test_calls(self):
        for sealer in SEALERS:
            known = own_known(sealer, own_head(sealer, LOG[:5]), each_word(sealer, LOG[:5]))
            self.assertIs(check_call(self, fills, sealer, known, LOG[:5]), True)
            self.assertIs(check_call(self, fills, sealer, known, LOG[:4]), False)


class Needed(unittest.TestCase):

    def test_nothing_known_but_the_head_and_all_known(self):
        for sealer in SEALERS:
            for size in range(9):
                head = own_head(sealer, LOG[:size])
                known = put_together(sealer, head, ())[1]
                self.assertEqual(check_call(self, needed, known), ((0, size),) if size > 0 else ())
                self.assertEqual(needed(put_together(sealer, head, [told_all(sealer, LOG[:size])])[1]), ())

    def test_size_1_with_and_without_the_entry(self):
        head = own_head(FEW, ("a",))
        self.assertEqual(needed((head, (((0, 1), head[1]),), ())), ((0, 1),))
        self.assertEqual(needed((head, (((0, 1), head[1]),), ((0, "a"),))), ())

    def test_just_the_places_whose_entries_are_not_known(self):
        draw = random.Random(3)
        for sealer in (WHOLE, FEW):
            things = all_things(sealer, LOG[:6])
            rises = [told_rise(sealer, LOG, old, 6) for old in range(1, 6)]
            for many in (0, 1, 1, 1, 2, 2, 3, 4, 6) * 3:
                own = [told for told in draw.sample(things, many) if told[1][0] > 0]
                known = put_together(sealer, own_head(sealer, LOG[:6]), own + rises)[1]
                told = check_call(self, needed, known)
                self.assertEqual(repr(told), repr(own_needed(known)))
                places = sorted(place for begin, end in told for place in range(begin, end))
                self.assertEqual(places, [place for place in range(6) if place not in dict(known[2])])

    def test_known_seals_of_other_nodes_are_left_out(self):
        """(4, 6) is a node of 6, not of 8; it is known, and so are its halves."""
        known = put_together(WHOLE, own_head(WHOLE, LOG), [told_entry(WHOLE, LOG, 6), told_rise(WHOLE, LOG, 7, 8)])[1]
        self.assertIn((0, 7), dict(known[1]))
        self.assertEqual(needed(known), ((0, 4), (4, 6), (7, 8)))


if __name__ == "__main__":
    unittest.main()
