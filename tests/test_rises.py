"""Rises [8]."""

import random
import unittest

from leafway.errors import CanNot, Unfit
from leafway.rises import is_rise, joined, rise, rise_length, rise_stretches, roots_by_rise
from leafway.roots import head_of
from tests.helper import check_call, check_thing, listed, odd_values, variants
from tests.reckoning import GreatLog, leaf, node, own_nodes, own_rise, own_root, rise_taken, roots_up, told_rise

SHA, WHOLE, FEW = ("sha",), ("whole",), ("weak", 1000, 5)
SEALERS = (SHA, WHOLE, FEW, ("weak", 2, 0), ("weak", 10 ** 9, 10 ** 9))
LONG = tuple("entry " + str(at) for at in range(300))
LOG = ("a", "b", "c", "d", "e", "f", "g", "h", "i")
TOP = 10 ** 18
HUGE = (TOP, TOP - 1, 2 ** 59, 2 ** 59 - 1, 2 ** 59 + 1, 10 ** 17 + 12345, 3 * 2 ** 57)
POOL = (True, None, -1, 0, 1, 7, "", "b", "0" * 64, (), ("none",), ("leaf", "a"), TOP)
TOLD = ("rise", (3, 542), (5, 937), (885, 886, 840, 887))


def drawn_olds(size):
    """The first and the last old of size, powers of 2 and one beside them, and some drawn ones."""
    draw = random.Random(size)
    olds = {1, 2, 3, size - 1, size, size // 2} | {draw.randrange(1, size + 1) for _ in range(12)}
    for at in (1, 20, 40, 56):
        olds |= {2 ** at - 1, 2 ** at, 2 ** at + 1, 3 * 2 ** at}
    return sorted(own for own in olds if 1 <= own <= size)


def unlike(sealer, seal):
    """Another seal."""
    if sealer[0] == "weak":
        return (seal + 1) % sealer[1]
    return leaf(sealer, "unlike")


class Stretches(unittest.TestCase):

    def test_examples(self):
        told = (rise_stretches(3, 5), rise_stretches(4, 5), rise_stretches(2, 7), rise_stretches(7, 7),
                rise_length(2 ** 59 + 1, TOP))
        self.assertEqual(told, (((2, 3), (3, 4), (0, 2), (4, 5)), ((4, 5),), ((2, 4), (4, 7)), (), 61))
        with self.assertRaises(Unfit):
            rise_stretches(0, 5)

    def test_small_sizes(self):
        for size in range(1, 41):
            nodes = own_nodes(0, size)
            for old in range(1, size + 1):
                told = rise_stretches(old, size)
                self.assertEqual(repr(told), repr(own_rise(old, size)))
                self.assertEqual(rise_length(old, size), len(told))
                self.assertTrue(set(told) <= set(nodes))
                self.check_parts(old, size, told)

    def check_parts(self, old, size, told):
        """With the last node, the stretches are side by side from 0 to size, and one edge of them is old."""
        whole = (set(told) | {(0, old)}) if old & (old - 1) == 0 or old == size else set(told)
        reached = 0
        for begin, end in sorted(whole):
            self.assertEqual(begin, reached)
            reached = end
        self.assertEqual(reached, size)
        self.assertIn(old, [end for _, end in whole])
        self.assertLessEqual(len(told), 2 * size.bit_length())

    def test_great_sizes(self):
        for size in HUGE:
            for old in drawn_olds(size):
                told = check_call(self, rise_stretches, old, size)
                self.assertEqual(told, own_rise(old, size))
                self.assertEqual(check_call(self, rise_length, old, size), len(told))
                self.check_parts(old, size, told)

    def test_far_greater_sizes(self):
        self.assertEqual(rise_length(2 ** 99999, 2 ** 100000), 1)
        self.assertEqual(rise_length(1, 2 ** 100000), 100000)
        self.assertEqual(rise_length(2 ** 100000, 2 ** 100000), 0)

    def test_no_such_sizes(self):
        for old, size in ((0, 5), (-1, 5), (6, 5), (2, 1), (0, 1), (1, 0), (0, 0), (-3, -3), (TOP + 1, TOP), (5, -5)):
            calls = [lambda: rise_stretches(old, size), lambda: rise_length(old, size),
                     lambda: rise(FEW, LOG, old, size),
                     lambda: roots_by_rise(FEW, (old, 7), size, ()), lambda: roots_by_rise(FEW, [old, 7], size, [7])]
            for call in calls:
                self.assertRaises(Unfit, call)


class Rises(unittest.TestCase):

    def test_examples(self):
        log = LOG[:5]
        self.assertEqual((rise(FEW, log, 3, 5), rise(FEW, log, 2, 5), rise(FEW, log, 5, 5)),
                         ((885, 886, 840, 887), (860, 887), ()))
        self.assertEqual((roots_by_rise(FEW, (3, 542), 5, (885, 886, 840, 887)), roots_by_rise(FEW, (4, 467), 5, (1,))),
                         ((542, 937), (467, 279)))
        told = (is_rise(FEW, TOLD), is_rise(FEW, TOLD[:3] + ((885, 886, 840),)),
                is_rise(FEW, ("rise", (3, 543)) + TOLD[2:]), is_rise(FEW, ("rise", (5, 937), (5, 937), ())))
        self.assertEqual(told, (True, False, False, True))

    def test_rises_of_logs(self):
        for sealer in SEALERS:
            for size in (1, 2, 3, 5, 7, 8, 9):
                for old in range(1, size + 1):
                    wanted = told_rise(sealer, LOG, old, size)
                    way = check_call(self, rise, sealer, LOG[:size + old % 2], old, size)
                    self.assertEqual(repr(way), repr(wanted[3]))
                    roots = check_call(self, roots_by_rise, sealer, wanted[1], size, way)
                    self.assertEqual(repr(roots), repr((wanted[1][1], wanted[2][1])))
                    check_thing(self, is_rise, wanted, True, sealer)

    def test_rises_of_long_logs(self):
        for sealer in (WHOLE, FEW):
            for size in (255, 256, 257, 300):
                for old in drawn_olds(size):
                    way = rise(sealer, LONG, old, size)
                    self.assertEqual(way, tuple(own_root(sealer, LONG[b:e]) for b, e in own_rise(old, size)))
                    heads = (head_of(sealer, LONG[:old]), head_of(sealer, LONG[:size]))
                    self.assertIs(is_rise(sealer, ("rise", *heads, way)), True)

    def test_a_log_that_is_too_short(self):
        for size in (1, 2, 9):
            for old in range(1, size + 1):
                self.assertRaises(Unfit, rise, FEW, LOG[:size - 1], old, size)
                self.assertRaises(Unfit, rise, FEW, [], old, size)

    def test_another_number_of_seals(self):
        for old, size in ((1, 1), (1, 2), (3, 5), (4, 5), (5, 5), (7, TOP)):
            length = len(own_rise(old, size))
            for many in (length - 1, length + 1, length + 30):
                if many >= 0:
                    self.assertRaises(Unfit, roots_by_rise, FEW, (old, 5), size, (7,) * many)
                    self.assertRaises(Unfit, roots_by_rise, FEW, [old, 5], size, [7] * many)

    def test_any_seals_of_great_sizes(self):
        for sealer in SEALERS:
            for size in (TOP, 2 ** 59 + 1, 1000003):
                for old in (1, 2 ** 19, 2 ** 19 + 1, size - 1, size, 777777):
                    seals = tuple(leaf(sealer, "seal " + str(at)) for at in range(len(own_rise(old, size))))
                    early = (old, leaf(sealer, "early"))
                    told = roots_by_rise(sealer, early, size, seals)
                    if sealer != SHA:
                        check_call(self, roots_by_rise, sealer, early, size, seals)
                    self.assertEqual(repr(told), repr(roots_up(sealer, early, size, seals)))
                    thing = ("rise", (old, told[0]), (size, told[1]), seals)
                    self.assertIs(is_rise(sealer, thing), rise_taken(sealer, thing))
                    self.assertIs(is_rise(sealer, thing), True)


class Taken(unittest.TestCase):

    def test_changed_ones(self):
        for sealer in SEALERS:
            for old, size in ((1, 1), (1, 2), (2, 3), (3, 5), (4, 7), (6, 7), (5, 9)):
                right = told_rise(sealer, LOG, old, size)
                way = right[3]
                ways = [way + (leaf(sealer, "more"),), (leaf(sealer, "more"),) + way]
                for at, seal in enumerate(way):
                    ways += [way[:at] + (unlike(sealer, seal),) + way[at + 1:], way[:at] + way[at + 1:],
                             way[:at] + (seal,) + way[at:]]
                things = [right[:3] + (one,) for one in ways]
                things += [right[:1] + ((old, unlike(sealer, right[1][1])),) + right[2:],
                           right[:2] + ((size, unlike(sealer, right[2][1])),) + right[3:]]
                for thing in things:
                    wanted = rise_taken(sealer, thing)
                    if sealer in (SHA, WHOLE) and thing != right:
                        self.assertIs(wanted, False)
                    check_thing(self, is_rise, thing, wanted, sealer)

    def test_things_bent_in_one_part(self):
        for sealer in SEALERS:
            for old, size in ((1, 1), (1, 2), (3, 5)):
                for thing in variants(told_rise(sealer, LOG, old, size), POOL):
                    check_thing(self, is_rise, thing, rise_taken(sealer, thing), sealer)

    def test_values_of_all_kinds(self):
        for thing in odd_values():
            for sealer in (SHA, WHOLE, FEW):
                check_thing(self, is_rise, thing, rise_taken(sealer, thing), sealer)

    def test_sizes_as_they_must_be(self):
        none, one = (0, 5), head_of(FEW, ("a",))
        for thing in (("rise", none, one, ()), ("rise", none, none, ()), ("rise", one, none, ()),
                      ("rise", none, one, (883,)), ("rise", (True, 883), one, ()), ("rise", one, (True, 883), ()),
                      ("rise", (2, 840), one, ()), ("rise", one, (10 ** 5000, 883), ()), ("all", one, one, ()),
                      ("rise", (2 ** 10 ** 6, 883), (2 ** 10 ** 6 + 2 ** 10 ** 5, 883), (7, 7)), ("rise", one, one, []),
                      ["rise", one, one, ()], ("rise", one, one), ("rise", one, one, (), ())):
            check_thing(self, is_rise, thing, False, FEW)
        check_thing(self, is_rise, ("rise", one, one, ()), True, FEW)
        check_thing(self, is_rise, ("rise", (2 ** 10 ** 6, 883), (2 ** 10 ** 6, 883), ()), True, FEW)

    def test_great_halves_that_are_one_object(self):
        seals = [("leaf", "a")]
        for _ in range(60):
            seals.append(("node", seals[-1], seals[-1]))
        thing = ("rise", (2 ** 50, seals[50]), (2 ** 60, seals[60]), tuple(seals[50:60]))
        self.assertIs(is_rise(WHOLE, thing), True)
        self.assertIs(is_rise(WHOLE, thing[:3] + (thing[3][::-1],)), False)
        last = ("rise", thing[2], thing[2], ())
        self.assertEqual(joined(WHOLE, thing, last), thing)

    def test_what_is_taken_by_whole_seals_is_true(self):
        for size in range(1, 6):
            head = head_of(WHOLE, LOG[:size])
            heads = [(old, own_root(WHOLE, log)) for old in range(1, size + 1)
                     for log in (LOG[:old], ("z",) + LOG[1:old], LOG[1:old + 1])]
            for old in heads:
                for other in (LOG, ("z",) + LOG[1:], LOG[1:]):
                    thing = ("rise", old, head, told_rise(WHOLE, other, old[0], size)[3])
                    if is_rise(WHOLE, thing):
                        self.assertEqual(thing, told_rise(WHOLE, LOG, old[0], size))


class Joined(unittest.TestCase):

    def test_example(self):
        told = joined(FEW, ("rise", (2, 840), (3, 542), (885,)), TOLD)
        self.assertEqual(told, ("rise", (2, 840), (5, 937), (860, 887)))

    def test_each_three_sizes_of_small_logs(self):
        for sealer in (WHOLE, FEW, ("weak", 2, 0), ("weak", 10 ** 9, 10 ** 9)):
            for size in range(1, 18):
                for middle in range(1, size + 1):
                    for old in range(1, middle + 1):
                        near, far = told_rise(sealer, LONG, old, middle), told_rise(sealer, LONG, middle, size)
                        self.assertEqual(joined(sealer, near, far), told_rise(sealer, LONG, old, size))

    def test_calls(self):
        for sealer in SEALERS:
            for old, middle, size in ((1, 1, 1), (1, 2, 3), (2, 3, 5), (3, 5, 9), (3, 3, 7), (5, 7, 7), (4, 6, 8)):
                near, far = told_rise(sealer, LOG, old, middle), told_rise(sealer, LOG, middle, size)
                told = check_call(self, joined, sealer, near, far)
                self.assertEqual(repr(told), repr(told_rise(sealer, LOG, old, size)))

    def test_great_sizes(self):
        draw = random.Random(8)
        for sealer in (FEW, WHOLE, ("weak", 2, 0)):
            for size in (TOP, 2 ** 59 + 1, 3 * 2 ** 57):
                for _ in range(20):
                    old, middle = sorted(draw.randrange(1, size) for _ in range(2))
                    great = GreatLog(sealer, (old, middle, size))
                    near, far = self.told_by(great, old, middle), self.told_by(great, middle, size)
                    self.assertEqual(joined(sealer, near, far), self.told_by(great, old, size))

    def told_by(self, great, old, size):
        return "rise", great.head(old), great.head(size), great.seals(own_rise(old, size))

    def test_where_one_is_not_taken(self):
        for sealer in SEALERS:
            near, far = told_rise(sealer, LOG, 2, 3), told_rise(sealer, LOG, 3, 5)
            for wrong in ((near[:3] + (near[3] * 2,), far), (near, far[:3] + (far[3][:-1],)),
                          (near[:3] + ((),), far), (near, far[:3] + (far[3] + far[3][:1],))):
                self.assertRaises(Unfit, joined, sealer, *wrong)
                self.assertRaises(Unfit, joined, sealer, *listed(wrong))
            for at in range(3):
                bad = far[:3] + (far[3][:at] + (unlike(sealer, far[3][at]),) + far[3][at + 1:],)
                if not rise_taken(sealer, bad):
                    self.assertRaises(Unfit, joined, sealer, near, bad)

    def test_where_they_do_not_meet(self):
        for sealer in (SHA, WHOLE, FEW):
            other = ("z",) + LOG[1:]
            near = told_rise(sealer, LOG, 2, 3)
            for far in (told_rise(sealer, LOG, 4, 5), told_rise(sealer, LOG, 2, 5),
                        told_rise(sealer, other, 3, 5), near):
                self.assertRaises(Unfit, joined, sealer, near, far)
                self.assertRaises(Unfit, joined, sealer, far, near)

    def test_where_what_comes_is_not_taken(self):
        seen = {True: 0, False: 0}
        for sealer in (("weak", 2, 0), ("weak", 2, 1), ("weak", 3, 1)):
            for sizes in ((2, 3, 5), (1, 3, 7), (3, 5, 6), (1, 2, 4), (5, 6, 7)):
                nears = all_taken_rises(sealer, sizes[0], sizes[1])
                fars = all_taken_rises(sealer, sizes[1], sizes[2])
                for near in nears:
                    for far in fars:
                        if near[2] == far[1]:
                            seen[self.check_joined(sealer, near, far)] += 1
        self.assertGreater(min(seen.values()), 50)

    def check_joined(self, sealer, near, far):
        """Check joined by an own search for the seals; tell whether what comes is taken."""
        table = dict(zip(own_rise(near[1][0], near[2][0]), near[3]))
        table.update(zip(own_rise(far[1][0], far[2][0]), far[3]))
        way = tuple(own_from(sealer, table, *own) for own in own_rise(near[1][0], far[2][0]))
        wanted = ("rise", near[1], far[2], way)
        if not rise_taken(sealer, wanted):
            self.assertRaises(CanNot, joined, sealer, near, far)
            return False
        self.assertEqual(joined(sealer, near, far), wanted)
        return True


def own_from(sealer, table, begin, end):
    """The seal from begin to end out of a table of seals, by halves."""
    if (begin, end) in table:
        return table[(begin, end)]
    middle = begin + (1 << (end - begin - 1).bit_length() - 1)
    return node(sealer, own_from(sealer, table, begin, middle), own_from(sealer, table, middle, end))


def all_taken_rises(sealer, old, size):
    """Taken rises of these sizes with any seals, as far as they are few."""
    draw, many, found = random.Random(old + 10 * size), len(own_rise(old, size)), []
    for _ in range(30):
        way = tuple(draw.randrange(sealer[1]) for _ in range(many))
        early = (old, draw.randrange(sealer[1]))
        elder, newer = roots_up(sealer, early, size, way)
        if elder == early[1]:
            found.append(("rise", early, (size, newer), way))
    return found


if __name__ == "__main__":
    unittest.main()
