"""Ways [7]."""

import random
import unittest

from leafway.errors import CanNot, NoPlace, Unfit
from leafway.roots import head_of, root, seal_of_stretch
from leafway.seals import seal_of
from leafway.ways import clash_of, is_shown, is_way, lengths, neighbours, nodes_above, root_by, shortest, shows, stays
from leafway.ways import unlike_logs, way, way_length
from tests.helper import check_call, check_thing, listed, odd_values, variants
from tests.reckoning import entry_taken, leaf, node, own_head, own_nodes, own_root, own_way, root_up

SHA, WHOLE, FEW = ("sha",), ("whole",), ("weak", 1000, 5)
SEALERS = (SHA, WHOLE, FEW, ("weak", 2, 0), ("weak", 10 ** 9, 10 ** 9))
LONG = tuple("entry " + str(at) for at in range(300))
LOG = ("a", "b", "c", "d", "e", "f", "g")
TOP = 10 ** 18
HUGE = (TOP, TOP - 1, 2 ** 59, 2 ** 59 - 1, 2 ** 59 + 1, 10 ** 17 + 12345, 3 * 2 ** 57)
POOL = (True, None, -1, 0, 1, 7, "", "b", "0" * 64, (), ("none",), ("leaf", "a"), TOP)


def drawn_places(size, many=12):
    """The first and the last place of size, and some drawn ones, the same ones in each run."""
    draw = random.Random(size)
    return sorted({0, size - 1, size // 2} | {draw.randrange(size) for _ in range(many)})


def changed_ways(sealer, seals):
    """Ways like seals with one seal changed, left out or put in."""
    other = leaf(sealer, "another")
    found = [seals + (other,), (other,) + seals]
    for at, seal in enumerate(seals):
        unlike = (seal + 1) % sealer[1] if sealer[0] == "weak" else leaf(sealer, "unlike")
        found += [seals[:at] + (unlike,) + seals[at + 1:], seals[:at] + seals[at + 1:],
                  seals[:at] + (other,) + seals[at:]]
    return found


class Nodes(unittest.TestCase):

    def test_examples(self):
        self.assertEqual((neighbours(7, 4), nodes_above(7, 4), way_length(7, 6)),
                         (((5, 6), (6, 7), (0, 4)), ((4, 5), (4, 6), (4, 7), (0, 7)), 2))
        self.assertEqual((lengths(7), shortest(7), shortest(8), way_length(TOP, 0), lengths(1), neighbours(1, 0)),
                         (((2, 1), (3, 6)), (2, 6), (3, 0), 60, ((0, 1),), ()))

    def test_each_place_of_small_sizes(self):
        for size in range(1, 41):
            nodes = own_nodes(0, size)
            for place in range(size):
                above = sorted([own for own in nodes if own[0] <= place < own[1]], key=lambda own: own[1] - own[0])
                self.assertEqual(check_call(self, nodes_above, size, place), tuple(above))
                told = check_call(self, neighbours, size, place)
                self.assertEqual(repr(told), repr(own_way(size, place)))
                self.assertEqual(check_call(self, way_length, size, place), len(told))
                for below, beside, whole in zip(above, told, above[1:]):
                    self.assertEqual((min(below + beside), max(below + beside)), whole)

    def test_lengths_of_small_sizes(self):
        for size in range(1, 301):
            many = [len(own_way(size, place)) for place in range(size)]
            wanted = tuple((length, many.count(length)) for length in sorted(set(many)))
            self.assertEqual(repr(check_call(self, lengths, size)), repr(wanted))
            self.assertEqual(repr(check_call(self, shortest, size)), repr((min(many), many.index(min(many)))))
            self.assertEqual(many[0], max(many))

    def test_great_sizes(self):
        for size in HUGE:
            for place in drawn_places(size):
                wanted = own_way(size, place)
                self.assertEqual(check_call(self, neighbours, size, place), wanted)
                self.assertEqual(check_call(self, way_length, size, place), len(wanted))
                above = nodes_above(size, place)
                self.assertEqual((above[0], above[-1], len(above)), ((place, place + 1), (0, size), len(wanted) + 1))
            told, (least, first) = check_call(self, lengths, size), check_call(self, shortest, size)
            self.assertEqual(sum(many for _, many in told), size)
            self.assertEqual([length for length, _ in told], sorted({length for length, _ in told}))
            self.assertEqual(told[0][0], least)
            self.assertEqual(len(own_way(size, first)), least)
            self.assertEqual(told[-1][0], len(own_way(size, 0)))
            for place in drawn_places(size, 100):
                length = len(own_way(size, place))
                self.assertIn(length, [own for own, _ in told])
                self.assertGreaterEqual((length, place), (least, first))

    def test_lengths_of_great_sizes_told_by_halves(self):
        for size in HUGE:
            table = own_lengths(size)
            self.assertEqual(lengths(size), tuple(sorted((length, many) for length, (many, _) in table.items())))
            least = min(table)
            self.assertEqual(shortest(size), (least, table[least][1]))

    def test_far_greater_sizes(self):
        self.assertEqual(way_length(2 ** 100000, 5), 100000)
        self.assertEqual(way_length(2 ** 100000 + 1, 2 ** 100000), 1)
        self.assertEqual(shortest(2 ** 200 + 1), (1, 2 ** 200))

    def test_places_that_are_not_there(self):
        for size in (1, 2, 7, 40, TOP):
            for place in (-1, -size, size, size + 1, 2 * TOP):
                for function in (nodes_above, neighbours, way_length):
                    with self.assertRaises(NoPlace) as caught:
                        function(size, place)
                    self.assertEqual(caught.exception.place, place)


def own_lengths(size):
    """For each length how many places of size have it, and the least one of them; by halves, by their own words."""
    if size == 1:
        return {0: (1, 0)}
    if size & (size - 1) == 0:
        return {size.bit_length() - 1: (size, 0)}
    c = 1 << (size.bit_length() - 1)
    found = {}
    for shift, half in ((0, own_lengths(c)), (c, own_lengths(size - c))):
        for length, (many, least) in half.items():
            before = found.get(length + 1, (0, shift + least))
            found[length + 1] = (before[0] + many, min(before[1], shift + least))
    return found


class Ways(unittest.TestCase):

    def test_examples(self):
        log = ("a", "b", "c")
        self.assertEqual(repr((way(WHOLE, log, 3, 2), way(WHOLE, log, 2, 0))),
                         repr(((("node", ("leaf", "a"), ("leaf", "b")),), (("leaf", "b"),))))
        head = (3, ("node", ("node", ("leaf", "a"), ("leaf", "b")), ("leaf", "c")))
        near = (("leaf", "b"), ("leaf", "c"))
        told = (root_by(WHOLE, 3, 0, "a", near) == head[1], is_way(WHOLE, head, 0, "b", near),
                is_shown(WHOLE, ("entry", head, 0, "a", near)), clash_of(WHOLE, head, 0, ("a", near), ("a", near)))
        self.assertEqual(told, (True, False, True, None))
        with self.assertRaises(NoPlace) as caught:
            way(WHOLE, log, 3, 3)
        self.assertEqual(caught.exception.place, 3)

    def test_ways_of_logs(self):
        for sealer in SEALERS:
            for size in (1, 2, 3, 5, 7, 8, 13):
                log, head = LONG[:size + 2], own_head(sealer, LONG[:size])
                for place in range(size):
                    told = check_call(self, way, sealer, log, size, place)
                    wanted = tuple(own_root(sealer, log[begin:end]) for begin, end in own_way(size, place))
                    self.assertEqual(repr(told), repr(wanted))
                    top = check_call(self, root_by, sealer, size, place, log[place], told)
                    self.assertEqual(repr(top), repr(head[1]))
                    check_thing(self, is_shown, ("entry", head, place, log[place], told), True, sealer)
                    self.assertIs(is_way(sealer, head, place, log[place], told), True)
                    self.assertIs(is_way(listed(sealer), listed(head), place, log[place], thing=told), True)
                    self.assertIs(is_way(sealer, head, place, log[place], list(told)), False)

    def test_ways_of_long_logs(self):
        for sealer in (WHOLE, FEW):
            for size in (255, 256, 257, 300):
                head = head_of(sealer, LONG[:size])
                for place in drawn_places(size):
                    told = way(sealer, LONG, size, place)
                    self.assertEqual(told, tuple(seal_of_stretch(sealer, LONG, own) for own in own_way(size, place)))
                    self.assertIs(is_way(sealer, head, place, LONG[place], told), True)

    def test_changed_ways(self):
        for sealer in SEALERS:
            for size in (1, 2, 5, 7):
                head = head_of(sealer, LOG[:size])
                for place in range(size):
                    told = way(sealer, LOG, size, place)
                    for one in changed_ways(sealer, told):
                        wanted = root_up(sealer, size, place, LOG[place], one) == head[1]
                        if sealer in (SHA, WHOLE) or len(one) != len(told):
                            self.assertIs(wanted, False)
                        self.assertIs(is_way(sealer, head, place, LOG[place], one), wanted)
                        check_thing(self, is_shown, ("entry", head, place, LOG[place], one), wanted, sealer)
                    for other in range(size):
                        for entry in ("a", "z", LOG[place]):
                            wanted = root_up(sealer, size, other, entry, told) == head[1]
                            if sealer in (SHA, WHOLE):
                                self.assertIs(wanted, (other, entry) == (place, LOG[place]))
                            self.assertIs(is_way(sealer, head, other, entry, told), wanted)

    def test_root_by_any_seals_of_great_sizes(self):
        for sealer in SEALERS:
            for size in (TOP, 2 ** 59 + 1, 1000003):
                for place in drawn_places(size, 1):
                    seals = tuple(leaf(sealer, "seal " + str(at)) for at in range(len(own_way(size, place))))
                    told = check_call(self, root_by, sealer, size, place, "an entry", seals) if sealer != SHA else \
                        root_by(sealer, size, place, "an entry", seals)
                    self.assertEqual(repr(told), repr(root_up(sealer, size, place, "an entry", seals)))
                    check_thing(self, is_shown, ("entry", (size, told), place, "an entry", seals), True, sealer)
                    check_thing(self, is_shown, ("entry", (size, told), place, "an entry", seals[:-1]), False, sealer)

    def test_ways_of_130_seals(self):
        for sealer in (WHOLE, FEW):
            seals = tuple(leaf(sealer, str(at)) for at in range(130))
            told = root_by(sealer, 2 ** 130, 77, "e", seals)
            self.assertEqual(told, root_up(sealer, 2 ** 130, 77, "e", seals))
            self.assertIs(is_shown(sealer, ("entry", (2 ** 130, told), 77, "e", seals)), True)
            self.assertIs(is_shown(sealer, ("entry", (2 ** 130 + 1, told), 77, "e", seals)), False)
            self.assertIs(is_way(sealer, (2 ** 59, told), 77, "e", seals), False)

    def test_root_by_with_too_few_or_too_many(self):
        for size, place in ((1, 0), (2, 1), (7, 6), (7, 0), (TOP, 5)):
            length = len(own_way(size, place))
            for many in (0, length - 1, length + 1, length + 40):
                if 0 <= many != length:
                    for seals in ((7,) * many, [7] * many):
                        with self.assertRaises(Unfit):
                            root_by(FEW, size, place, "a", seals)

    def test_which_error_comes_first(self):
        for size in (1, 7):
            head = head_of(FEW, LOG[:size])
            for place in (-1, -7, size, size + 1, TOP):
                calls = [lambda: way(FEW, (), size, place), lambda: way(FEW, LOG, size, place),
                         lambda: root_by(FEW, size, place, "a", (7,) * 99),
                         lambda: clash_of(FEW, head, place, ("a", (7,) * 99), ("b", ())),
                         lambda: stays(size, size + 3, place), lambda: shows(size, place, ((0, 99),)),
                         lambda: unlike_logs(size, place, ((0, 99),)), lambda: unlike_logs(size, place, ((0, size),))]
                calls += [lambda own=thing: is_way(FEW, head, place, "a", own)
                          for thing in (None, True, (), [], (7,) * 9, "x", ("none",))]
                for call in calls:
                    with self.assertRaises(NoPlace) as caught:
                        call()
                    self.assertEqual(caught.exception.place, place)
        for size in (1, 2, 7):
            for place in range(size):
                with self.assertRaises(Unfit):
                    way(FEW, LOG[:size - 1], size, place)

    def test_is_way_of_values_of_all_kinds(self):
        for sealer in (SHA, WHOLE, FEW):
            for size, place in ((1, 0), (2, 1), (3, 0)):
                head = head_of(sealer, LOG[:size])
                right = way(sealer, LOG, size, place)
                for thing in odd_values() + variants(right, POOL):
                    form = entry_taken(sealer, ("entry", head, place, LOG[place], thing))
                    check_thing(self, is_way, thing, form, sealer, head, place, LOG[place])


class Shown(unittest.TestCase):

    def test_values_of_all_kinds(self):
        for thing in odd_values():
            for sealer in (SHA, WHOLE, FEW):
                check_thing(self, is_shown, thing, entry_taken(sealer, thing), sealer)

    def test_things_bent_in_one_part(self):
        for sealer in SEALERS:
            for size, place in ((1, 0), (2, 0), (3, 2), (5, 1)):
                right = ("entry", head_of(sealer, LOG[:size]), place, LOG[place], way(sealer, LOG, size, place))
                for thing in variants(right, POOL):
                    check_thing(self, is_shown, thing, entry_taken(sealer, thing), sealer)

    def test_other_told_things(self):
        head = head_of(FEW, ("a",))
        for thing in (("all", head, ("a",)), ("rise", head, head, ()), ("many", head, ((0, "a"),), ()),
                      ("entry", head, 0, "a"), ("entry", head, ((0, "a"),), ()), ("Entry", head, 0, "a", ())):
            check_thing(self, is_shown, thing, False, FEW)

    def test_places_and_sizes_as_they_must_be(self):
        head = head_of(FEW, ("a",))
        check_thing(self, is_shown, ("entry", head, 0, "a", ()), True, FEW)
        for place in (False, True, -1, 1, None, "0", TOP):
            check_thing(self, is_shown, ("entry", head, place, "a", ()), False, FEW)
        for size in (0, -1, True, 2, None, TOP, 10 ** 5000, 2 ** 10 ** 6, -2 ** 10 ** 6):
            check_thing(self, is_shown, ("entry", (size, head[1]), 0, "a", ()), False, FEW)

    def test_great_halves_that_are_one_object(self):
        seals = [("leaf", "a")]
        for _ in range(60):
            seals.append(("node", seals[-1], seals[-1]))
        thing = ("entry", (2 ** 60, seals[60]), 12345, "a", tuple(seals[:60]))
        self.assertIs(is_shown(WHOLE, thing), True)
        self.assertIs(is_shown(WHOLE, thing[:3] + ("b",) + thing[4:]), False)
        self.assertIs(is_way(WHOLE, list(thing[1]), 5, "a", thing[4]), True)


class Clashes(unittest.TestCase):

    def own_clash(self, sealer, size, place, one, other):
        """The first unlike matters from the root down, told half by half."""
        if size == 1:
            first, second = ("leaf", one[0]), ("leaf", other[0])
            return None if first == second else (first, second)
        c = 1 << (size - 1).bit_length() - 1
        left = place < c
        inner = (c, place) if left else (size - c, place - c)
        matters = []
        for entry, seals in (one, other):
            below = root_up(sealer, *inner, entry, seals[:-1])
            matters.append(("node", below, seals[-1]) if left else ("node", seals[-1], below))
        if matters[0] != matters[1]:
            return tuple(matters)
        return self.own_clash(sealer, *inner, (one[0], one[1][:-1]), (other[0], other[1][:-1]))

    def test_weak_seals(self):
        seen = {None: 0, "leaf": 0, "node": 0}
        for sealer in (("weak", 2, 0), ("weak", 3, 1), ("weak", 5, 0)):
            for size in (1, 2, 3, 5, 7):
                for place in range(size):
                    for top in range(sealer[1]):
                        taken = self.taken_pairs(sealer, size, place, top)
                        self.check_pairs(sealer, size, place, top, taken, seen)
        self.assertGreater(min(seen.values()), 20)

    def taken_pairs(self, sealer, size, place, top):
        """Some pairs (entry, way) that are taken at place under the head (size, top)."""
        draw, found, many = random.Random(size * 100 + place), [], len(own_way(size, place))
        for _ in range(200):
            pair = (draw.choice("abcdefg"), tuple(draw.randrange(sealer[1]) for _ in range(many)))
            if root_up(sealer, size, place, *pair) == top and len(found) < 5:
                found.append(pair)
        return found

    def check_pairs(self, sealer, size, place, top, taken, seen):
        for one in taken:
            for other in taken:
                told = clash_of(sealer, (size, top), place, one, other)
                self.assertEqual(repr(told), repr(self.own_clash(sealer, size, place, one, other)))
                self.assertEqual(told is None, one == other)
                seen[told and told[0][0]] += 1
                if told is not None:
                    self.assertNotEqual(told[0], told[1])
                    self.assertEqual(seal_of(sealer, told[0]), seal_of(sealer, told[1]))
        if taken:
            check_call(self, clash_of, sealer, (size, top), place, taken[0], taken[-1])

    def test_one_and_the_same(self):
        for sealer in SEALERS:
            for size in (1, 2, 7):
                head = head_of(sealer, LOG[:size])
                for place in range(size):
                    pair = (LOG[place], way(sealer, LOG, size, place))
                    self.assertIsNone(check_call(self, clash_of, sealer, head, place, pair, pair))
                    self.assertIsNone(clash_of(sealer, head, place, pair, listed(pair)))

    def test_where_one_is_not_taken(self):
        for sealer in (SHA, WHOLE, FEW):
            for size in (1, 2, 7):
                head = head_of(sealer, LOG[:size])
                for place in range(size):
                    pair = (LOG[place], way(sealer, LOG, size, place))
                    wrong = [("z", pair[1])] + [(pair[0], seals) for seals in changed_ways(sealer, pair[1])]
                    for bad in wrong:
                        if root_up(sealer, size, place, *bad) != head[1]:
                            for one, other in ((pair, bad), (bad, pair), (bad, bad), (listed(pair), listed(bad))):
                                with self.assertRaises(Unfit):
                                    clash_of(sealer, head, place, one, other)


class Stays(unittest.TestCase):

    def test_examples(self):
        self.assertEqual((stays(3, 4, 0), stays(4, 7, 1)), (1, 2))

    def test_small_sizes(self):
        for size in range(1, 25):
            for bigger in range(size, 35):
                for place in range(size):
                    old, new, many = own_way(size, place), own_way(bigger, place), 0
                    while many < min(len(old), len(new)) and old[many] == new[many]:
                        many += 1
                    self.assertEqual(stays(size, bigger, place), many)
        for place in range(5):
            check_call(self, stays, 5, 9, place)

    def test_great_sizes(self):
        self.assertEqual(stays(2 ** 59, TOP, 7), 59)
        self.assertEqual(stays(TOP, TOP, 7), 60)
        self.assertEqual(stays(TOP - 1, TOP, TOP - 2), 0)
        self.assertEqual(stays(1, TOP, 0), 0)


class Shows(unittest.TestCase):

    def test_examples(self):
        self.assertEqual((shows(7, 4, ((0, 2), (2, 4), (5, 6), (6, 7), (4, 7))), shows(7, 4, ((0, 4), (4, 6)))),
                         (True, False))
        one, other = unlike_logs(3, 2, ((0, 1),))
        self.assertEqual((one[2] == other[2], one[0] == other[0], one[1] == other[1]), (True, True, False))

    def own_shows(self, size, place, stretches):
        """Whether all neighbours come, node by node."""
        told = {own for own in stretches if not own[0] <= place < own[1]}

        def comes(begin, end):
            if (begin, end) in told:
                return True
            if end - begin == 1:
                return False
            middle = begin + (1 << (end - begin - 1).bit_length() - 1)
            return comes(begin, middle) and comes(middle, end)

        return all(comes(*own) for own in own_way(size, place))

    def check(self, size, place, stretches):
        wanted = self.own_shows(size, place, stretches)
        self.assertIs(shows(size, place, stretches), wanted)
        if wanted:
            with self.assertRaises(CanNot):
                unlike_logs(size, place, stretches)
        else:
            self.check_logs(size, place, stretches, unlike_logs(size, place, stretches))

    def check_logs(self, size, place, stretches, pair):
        self.assertIs(type(pair), tuple)
        one, other = pair
        for log in pair:
            self.assertIs(type(log), tuple)
            self.assertEqual(len(log), size)
            self.assertTrue(all(type(entry) is str and len(entry) <= 200 for entry in log))
        self.assertEqual(one[place], other[place])
        for own in stretches:
            if not own[0] <= place < own[1]:
                self.assertEqual(seal_of_stretch(WHOLE, one, own), seal_of_stretch(WHOLE, other, own))
        self.assertNotEqual(root(WHOLE, one), root(WHOLE, other))

    def test_all_nodes_of_small_sizes(self):
        for size in range(1, 6):
            nodes = own_nodes(0, size)
            for place in range(size):
                for chosen in range(1 << len(nodes)):
                    self.check(size, place, tuple(own for at, own in enumerate(nodes) if chosen >> at & 1))

    def test_drawn_nodes(self):
        draw = random.Random(7)
        for _ in range(600):
            size = draw.randrange(1, 25)
            nodes, place = own_nodes(0, size), draw.randrange(size)
            least = [own for own in nodes if not own[0] <= place < own[1]]
            many = draw.randrange(min(len(least), 60) + 1)
            stretches = draw.sample(least, many) + draw.sample(nodes, min(2, len(nodes), 60 - many))
            draw.shuffle(stretches)
            self.check(size, place, tuple(stretches))

    def test_the_neighbours_show_and_no_fewer_do(self):
        for size in (1, 2, 7, 8, 13, 40, 300):
            for place in drawn_places(size, 5):
                near = own_way(size, place)
                self.check(size, place, near)
                self.check(size, place, near[::-1] + near)
                for at in range(len(near)):
                    self.check(size, place, near[:at] + near[at + 1:])
                    self.check(size, place, ((0, size),) + near[:at] + near[at + 1:])
                self.check(size, place, ())

    def test_calls(self):
        self.assertIs(check_call(self, shows, 7, 4, ((6, 7), (5, 6), (0, 2), (2, 4))), True)
        self.assertIs(check_call(self, shows, 7, 4, ((0, 4), (4, 6))), False)
        self.assertIs(check_call(self, shows, 1, 0, ()), True)
        told = check_call(self, unlike_logs, 7, 4, ((0, 4), (4, 6)))
        self.check_logs(7, 4, ((0, 4), (4, 6)), told)

    def test_great_sizes(self):
        for size in HUGE:
            for place in drawn_places(size, 4):
                near = own_way(size, place)
                self.assertIs(check_call(self, shows, size, place, near), True)
                self.assertIs(shows(size, place, near[::-1]), True)
                self.assertIs(shows(size, place, near[1:]), False)
                self.assertIs(shows(size, place, near[:-1]), False)
                self.assertIs(shows(size, place, ()), False)

    def test_such_as_are_no_nodes(self):
        for size in range(1, 12):
            nodes = own_nodes(0, size)
            for begin in range(size + 2):
                for end in range(begin + 1, size + 4):
                    if (begin, end) not in nodes:
                        self.refused(size, ((begin, end),))
                        self.refused(size, ((0, size), [begin, end]))
                        self.refused(size, [[begin, end], *own_way(size, size - 1)])
        for stretch in ((1, 3), (0, TOP + 1), (TOP, TOP + 1), (2, 6), (0, 2 ** 58 + 1)):
            self.assertRaises(Unfit, shows, TOP, 5, (stretch,))

    def refused(self, size, stretches):
        for place in range(size):
            self.assertRaises(Unfit, shows, size, place, stretches)
            self.assertRaises(Unfit, unlike_logs, size, place, stretches)


class Guarantees(unittest.TestCase):

    def test_what_is_taken_by_whole_seals_is_true(self):
        for size in (1, 2, 3, 5):
            head = head_of(WHOLE, LOG[:size])
            for place in range(size):
                right = way(WHOLE, LOG, size, place)
                for entry in LOG:
                    for seals in changed_ways(WHOLE, right) + [right]:
                        self.assertEqual(is_way(WHOLE, head, place, entry, seals),
                                         (entry, seals) == (LOG[place], right))

    def test_entries_of_one_weak_seal_are_both_taken(self):
        weak = ("weak", 2, 0)
        head = head_of(weak, ("a", "b", "c"))
        told = way(weak, ("a", "b", "c"), 3, 0)
        self.assertIs(is_way(weak, head, 0, "c", told), True)
        self.assertEqual(clash_of(weak, head, 0, ("c", told), ("a", told)), (("leaf", "c"), ("leaf", "a")))
        self.assertEqual(node(weak, node(weak, 0, 1), 0), head[1])


if __name__ == "__main__":
    unittest.main()
