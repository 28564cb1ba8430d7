"""People who meet [11]."""

import itertools
import random
import unittest

from leafway.errors import CanNot, TooMuch, Unfit
from leafway.people import asks, can_tell, excuse, first_told, heads_told, holds, is_event, is_excuse, is_parting
from leafway.people import parting, tellers
from tests.helper import check_call, check_thing, listed, odd_values, variants
from tests.reckoning import leaf, number_from, own_head, told_all, told_entry, told_many, told_rise
from tests.shown import all_things, chance_things, entries_in, excuse_form, heads_in, own_can, own_told, parting_form
from tests.shown import play, taken, two_clash, two_part
from tests.test_known import great_things

SHA, WHOLE, FEW = ("sha",), ("whole",), ("weak", 1000, 5)
WEAKEST = ("weak", 2, 0)
SEALERS = (SHA, WHOLE, FEW, WEAKEST, ("weak", 10 ** 9, 10 ** 9))
LOG = ("a", "b", "c", "d", "e", "f", "g", "h")
OTHER = ("a", "b", "x", "d", "e", "f", "g", "h")
LONG = tuple("entry " + str(at) for at in range(300))
TOP = 10 ** 18
POOL = (True, None, -1, 0, 1, 7, "", "show", "meet", (), ("none",), ("leaf", "a"), TOP)
A, B, C = ("leaf", "a"), ("leaf", "b"), ("leaf", "c")
AB, AC = ("node", A, B), ("node", A, C)
HEAD = (3, ("node", AB, C))
LAST, ROSE = ("entry", HEAD, 2, "c", (AB,)), ("rise", (2, AB), HEAD, (C,))
MINE, YOURS = ("entry", (2, AB), 1, "b", (A,)), ("entry", (2, AC), 1, "c", (A,))
STORY = (("show", 0, MINE), ("show", 1, YOURS), ("show", 2, ("entry", (2, AB), 0, "b", (B,))), ("meet", 0, 2),
         ("meet", 1, 2))


def two_sided(sealer):
    """Things that a server shows of two unlike logs."""
    found = []
    for log in (LOG, OTHER):
        for size in (2, 3, 5, 8):
            first = log[:size]
            found += [told_entry(sealer, first, 0), told_entry(sealer, first, size - 1),
                      told_many(sealer, first, (0, size - 1)), told_rise(sealer, first, 1, size),
                      told_rise(sealer, first, size, size)]
        found.append(told_all(sealer, log[:4]))
    return found


def drawn_history(things, people, many, draw):
    """A history in which things are shown and people meet."""
    found = []
    for _ in range(many):
        if draw.random() < 0.5:
            found.append(("show", draw.randrange(people), draw.choice(things)))
        else:
            found.append(("meet", *draw.sample(range(people), 2)))
    return tuple(found)


def event_form(thing):
    """Whether thing is an event [11]."""
    if type(thing) is not tuple or len(thing) != 3 or thing[0] not in ("show", "meet"):
        return False
    if thing[0] == "show":
        return number_from(0, thing[1])
    return number_from(0, thing[1]) and number_from(0, thing[2]) and thing[1] != thing[2]


class Events(unittest.TestCase):

    def test_right_ones_and_others(self):
        for thing in STORY + (("show", TOP, None), ("show", 0, ()), ("show", 0, [[]]), ("meet", 0, TOP),
                              ("meet", 1, 0)):
            check_thing(self, is_event, thing, True)
        for thing in (("show", True, MINE), ("show", -1, MINE), ("meet", 1, 1), ("meet", True, 0), ("meet", -1, 0),
                      ("meet", 0, False), ("meet", 1, "0"), ("told", 0, MINE), ("show", 0), ("meet", 0, 1, 2),
                      ["show", 0, MINE], ["meet", 0, 1], ("show", "0", MINE), ("show", (0,), MINE), None, "show"):
            check_thing(self, is_event, thing, False)

    def test_bent_and_of_all_kinds(self):
        things = variants(("meet", 0, 7), POOL) + variants(("show", 0, ()), POOL) + odd_values()
        for thing in things + [("show", 0, one) for one in odd_values()]:
            check_thing(self, is_event, thing, event_form(thing))


class Holds(unittest.TestCase):

    def test_examples(self):
        told = (holds(WHOLE, STORY, 2), holds(WHOLE, STORY[:4], 2), holds(WHOLE, STORY, 0))
        self.assertEqual(told, ((MINE, YOURS), (MINE,), (MINE,)))

    def test_order_and_once(self):
        one, two, three = told_entry(FEW, LOG, 0), told_rise(FEW, LOG, 3, 8), told_all(FEW, LOG)
        story = [("show", 0, one), ("show", 0, one), ("show", 1, three), ("show", 1, two), ("show", 1, one),
                 ("meet", 0, 1), ("show", 0, two), ("meet", 2, 0), ("meet", 3, 4), ("show", 4, three), ("meet", 4, 1)]
        self.assertEqual(holds(FEW, story[:5], 0), (one,))
        self.assertEqual(holds(FEW, story[:6], 0), (one, three, two))
        self.assertEqual(holds(FEW, story[:6], 1), (three, two, one))
        self.assertEqual(holds(FEW, story, 2), (one, three, two))
        self.assertEqual(holds(FEW, story, 3), ())
        self.assertEqual(holds(FEW, story, 4), (three, two, one))
        self.assertEqual((holds(FEW, story, 7), holds(FEW, (), 0)), ((), ()))

    def test_what_is_not_taken(self):
        wrong = [("entry", (True, 0), 0, "a", ()), ("entry", (1, 0), False, "a", ()), ("all", (1, 1), ("a",)), None,
                 (), "entry", 7, ("rise", (2, 1)), ("show", 0, ())]
        story = [("show", 0, ("entry", (1, 0), 0, "a", ()))] + [("show", 0, one) for one in wrong]
        self.assertEqual(repr(holds(WEAKEST, story, 0)), repr((("entry", (1, 0), 0, "a", ()),)))
        self.assertEqual(holds(WEAKEST, story[:0:-1], 0), ())

    def test_beside_an_own_play(self):
        draw = random.Random(5)
        for sealer in (WHOLE, FEW, WEAKEST):
            things = two_sided(sealer) + [("entry", own_head(sealer, LOG), 0, "z", ()), None]
            for _ in range(30):
                history = drawn_history(things, 5, 20, draw)
                behind = play(sealer, history)[-1]
                for person in range(6):
                    self.assertEqual(repr(holds(sealer, history, person)), repr(tuple(behind.get(person, []))))

    def test_calls(self):
        for sealer in SEALERS:
            things = two_sided(sealer)
            history = drawn_history(things, 3, 12, random.Random(1))
            for person in range(3):
                result = check_call(self, holds, sealer, history, person)
                self.assertEqual(repr(result), repr(tuple(play(sealer, history)[-1].get(person, []))))


class Heads(unittest.TestCase):

    def test_examples(self):
        self.assertEqual(heads_told((ROSE,)), ((2, AB), HEAD))

    def test_all_of_them(self):
        for sealer in SEALERS:
            things = two_sided(sealer) + [("rise", (9, leaf(sealer, "a")), (12, leaf(sealer, "b")), ())]
            for length in (0, 1, 2, 5, len(things)):
                own = things[-length:] if length else []
                wanted = tuple(sorted({head for told in own for head in heads_in(told)}))
                self.assertEqual(repr(check_call(self, heads_told, own)), repr(wanted))


class Partings(unittest.TestCase):

    def test_examples(self):
        told = (is_parting(WHOLE, ((0, 2), MINE, YOURS)), is_parting(WHOLE, ((0, 1), MINE, YOURS)),
                is_parting(WHOLE, parting(WHOLE, (MINE, YOURS))), can_tell(WHOLE, (LAST, YOURS)))
        self.assertEqual(told, (True, False, True, True))
        self.assertRaises(CanNot, parting, WHOLE, (MINE, ROSE))

    def test_each_two(self):
        for sealer in (WHOLE, FEW, WEAKEST):
            things = two_sided(sealer)
            tellings = [own_told(sealer, told) for told in things]
            for one, other in itertools.product(range(len(things)), repeat=2):
                parts = two_part(tellings[one], tellings[other])
                self.check(sealer, (things[one], things[other]), parts,
                           parts or two_clash(sealer, tellings[one], tellings[other]))

    def check(self, sealer, things, parts, telling):
        self.assertIs(can_tell(sealer, things), telling)
        if not parts:
            self.assertRaises(CanNot, parting, sealer, things)
            return
        stretch, one, other = parting(sealer, things)
        self.assertIs(parting_form(sealer, (stretch, one, other)), True)
        self.assertIs(is_parting(sealer, (stretch, one, other)), True)
        self.assertTrue(one in things and other in things)

    def test_weak_seals(self):
        seen = {"part": 0, "clash": 0, "none": 0}
        draw = random.Random(4)
        for sealer in (WEAKEST, ("weak", 3, 1), ("weak", 50, 2)):
            for size in (1, 2, 3, 6):
                things = chance_things(sealer, size, 60, size)
                for _ in range(60):
                    own = draw.sample(things, draw.randrange(1, 4))
                    tellings = [own_told(sealer, told) for told in own]
                    parts = any(two_part(*two) for two in itertools.combinations(tellings, 2))
                    self.check(sealer, own, parts, own_can(sealer, own))
                    seen["part" if parts else "clash" if own_can(sealer, own) else "none"] += 1
        self.assertGreater(min(seen.values()), 20, seen)

    def test_a_clash_alone(self):
        one, other = ("entry", (1, 0), 0, "a", ()), ("entry", (1, 0), 0, "c", ())
        self.assertIs(can_tell(WEAKEST, (one, other)), True)
        self.assertRaises(CanNot, parting, WEAKEST, (one, other))
        self.assertIs(is_parting(WEAKEST, ((0, 1), one, other)), False)
        self.assertIs(can_tell(WEAKEST, (one, ("rise", (1, 0), (1, 0), ()))), False)

    def test_of_one_log_nothing_is_told(self):
        for sealer in (WHOLE, SHA, FEW):
            things = all_things(sealer, LOG[:4])
            self.assertIs(can_tell(sealer, things), False)
            self.assertRaises(CanNot, parting, sealer, things)
            self.assertIs(can_tell(sealer, ()), False)
            self.assertRaises(CanNot, parting, sealer, ())

    def test_bent_partings(self):
        for sealer in (WHOLE, WEAKEST, FEW):
            one, other = told_entry(sealer, LOG[:2], 1), told_entry(sealer, ("a", "c"), 1)
            right = ((1, 2), one, other)
            check_thing(self, is_parting, right, True, sealer)
            check_thing(self, is_parting, ((1, 2), other, one), True, sealer)
            for thing in variants(right, POOL):
                check_thing(self, is_parting, thing, parting_form(sealer, thing), sealer)
            for stretch in ((0, 1), (0, 2), (1, 1), (2, 1), (2, 4), (True, 2), (-1, 2), (0, TOP), [1, 2], (1, 2, 3)):
                thing = (stretch, one, other)
                check_thing(self, is_parting, thing, parting_form(sealer, thing), sealer)

    def test_stretches_that_just_one_tells(self):
        for sealer in (SHA, WHOLE, FEW):
            one, other = told_entry(sealer, LOG[:2], 1), told_entry(sealer, OTHER[1:6], 4)
            for stretch in [own for own, _ in own_told(sealer, one)[0] + own_told(sealer, other)[0]]:
                for thing in ((stretch, one, other), (stretch, other, one)):
                    check_thing(self, is_parting, thing, parting_form(sealer, thing), sealer)

    def test_values_of_all_kinds(self):
        for thing in odd_values():
            for sealer in (SHA, WHOLE, FEW):
                check_thing(self, is_parting, thing, parting_form(sealer, thing), sealer)

    def test_calls_and_what_is_not_taken(self):
        for sealer in SEALERS:
            things = two_sided(sealer)
            self.assertIs(check_call(self, can_tell, sealer, things), True)
            found = check_call(self, parting, sealer, things)
            self.assertIs(parting_form(sealer, found), True)
            if sealer != WEAKEST:
                for wrong in (("entry", own_head(sealer, LOG), 0, "z", ()), ("all", own_head(sealer, LOG), OTHER)):
                    for own in (things + [wrong], [wrong]):
                        self.assertRaises(Unfit, parting, sealer, own)
                        self.assertRaises(Unfit, can_tell, sealer, listed(own))

    def test_at_the_bounds(self):
        for sealer in (WHOLE, FEW):
            _, things = great_things(sealer, TOP, 60)
            self.assertIs(can_tell(sealer, things), False)
            self.assertRaises(CanNot, parting, sealer, things)
            word, head, place, entry, way = things[0]
            wrong = leaf(sealer, "unlike")
            bent = ("entry", (TOP, wrong), 0, "z", tuple(wrong for _ in range(60)))
            self.assertIs(taken(sealer, bent), False)
            other = great_things(sealer, TOP, 1, 1)[1]
            self.assertIs(can_tell(sealer, things + other), True)
            self.assertIs(parting_form(sealer, parting(sealer, things + other)), True)


class Excuses(unittest.TestCase):

    def test_examples(self):
        told = (is_excuse(WHOLE, (MINE,), ("q", "b")), is_excuse(WHOLE, (MINE,), ("a", "c")))
        self.assertEqual(told, (True, False))

    def test_of_what_logs_show(self):
        draw = random.Random(6)
        for sealer in (WHOLE, FEW, WEAKEST):
            things = all_things(sealer, LOG[:5])
            for many in (0, 1, 2, 3, 8):
                own = tuple(draw.sample(things, many))
                if own_can(sealer, own):
                    self.assertRaises(CanNot, excuse, sealer, own)
                else:
                    self.check(sealer, own)

    def check(self, sealer, things):
        log = excuse(sealer, things)
        self.assertIs(type(log), tuple)
        self.assertIs(excuse_form(sealer, things, log), True)
        check_thing(self, lambda thing: is_excuse(sealer, things, thing), log, True)
        places = {place for told in things for place, _ in entries_in(told)}
        for at in range(len(log)):
            for thing in (log[:at] + ("~~",) + log[at + 1:], log[:at] + log[at + 1:], log[:at] + (7,) + log[at + 1:]):
                self.assertIs(is_excuse(sealer, things, thing), excuse_form(sealer, things, thing))
            if at not in places:
                self.assertIs(is_excuse(sealer, things, log[:at] + ("~~",) + log[at + 1:]), True)
        for thing in (log + ("a",), list(log), (log,), None):
            self.assertIs(is_excuse(sealer, things, thing), False)

    def test_weak_seals(self):
        seen = {True: 0, False: 0}
        draw = random.Random(8)
        for sealer in (WEAKEST, ("weak", 3, 1)):
            things = chance_things(sealer, 4, 80, 2)
            for _ in range(120):
                own = tuple(draw.sample(things, draw.randrange(1, 4)))
                seen[own_can(sealer, own)] += 1
                if own_can(sealer, own):
                    self.assertRaises(CanNot, excuse, sealer, own)
                    self.assertIs(is_excuse(sealer, own, ("a",) * max(head[0] for one in own
                                                                      for head in heads_in(one))),
                                  False)
                else:
                    self.check(sealer, own)
        self.assertGreater(min(seen.values()), 20)

    def test_things_alike_are_true_of_it(self):
        """A server with the excuse shows as much: the same stretches told and opened, one seal each."""
        for sealer in (WHOLE, FEW):
            things = (told_entry(sealer, LOG[:5], 1), told_rise(sealer, OTHER[:7], 3, 6),
                      told_many(sealer, LOG[:2], (0,)))
            things = things if not own_can(sealer, things) else things[:1]
            log = excuse(sealer, things)
            for told in things:
                alike = {"entry": lambda: told_entry(sealer, log[:told[1][0]], told[2]),
                         "rise": lambda: told_rise(sealer, log, told[1][0], told[2][0]),
                         "many": lambda: told_many(sealer, log[:told[1][0]], [at for at, _ in told[2]])}[told[0]]()
                self.assertEqual([own for own, _ in own_told(sealer, alike)[0]],
                                 [own for own, _ in own_told(sealer, told)[0]])
                self.assertEqual(entries_in(alike), entries_in(told))

    def test_which_error_comes_first(self):
        great = told_entry(FEW, LONG + ("a",), 3)
        unlike, wrong = told_entry(FEW, ("z",) + LONG, 3), ("entry", (400, 7), 0, "a", ())
        for things, error in (((great,), TooMuch), ((great, unlike), CanNot), ((great, wrong), Unfit),
                              ((great, unlike, wrong), Unfit), ((told_entry(FEW, LONG, 3),), None), ((wrong,), Unfit),
                              ((told_rise(FEW, LONG + ("a",), 5, 301),), TooMuch)):
            if error is None:
                self.assertEqual(excuse(FEW, things)[3], LONG[3])
            else:
                self.assertRaises(error, excuse, FEW, things)
                self.assertRaises(error, excuse, FEW, listed(things))
        for things in ((wrong,), (great, unlike, wrong)):
            for thing in ((), LONG, None):
                self.assertRaises(Unfit, is_excuse, FEW, things, thing)

    def test_is_excuse_of_greater_things_and_of_all_kinds(self):
        log = LONG + ("a", "b")
        great = (told_entry(FEW, log, 300),)
        check_thing(self, lambda thing: is_excuse(FEW, great, thing), log, True)
        check_thing(self, lambda thing: is_excuse(FEW, great, thing), LONG + ("b", "b"), False)
        check_thing(self, lambda thing: is_excuse(FEW, great_things(FEW, TOP, 2)[1], thing), log, False)
        for thing in odd_values():
            for things in ((), (MINE,), (told_all(WHOLE, ("a",)),)):
                self.assertIs(is_excuse(WHOLE, things, thing), excuse_form(WHOLE, things, thing))

    def test_calls(self):
        for sealer in SEALERS:
            for things in ((), (told_entry(sealer, LOG, 3), told_rise(sealer, LOG, 5, 8)), (told_all(sealer, LOG),)):
                log = check_call(self, excuse, sealer, things)
                self.assertIs(excuse_form(sealer, things, log), True)
                for way in (tuple, list, listed):
                    self.assertIs(is_excuse(sealer=sealer, things=way(things), thing=log), True)


class Meetings(unittest.TestCase):

    def test_examples(self):
        told = (first_told(WHOLE, STORY), first_told(WHOLE, STORY[:4]), tellers(WHOLE, STORY[:3]),
                tellers(WHOLE, STORY))
        self.assertEqual(told, ((4, (1, 2)), None, ((0, 1),), ()))

    def own_first(self, sealer, behind):
        for number, held in enumerate(behind):
            able = tuple(sorted(person for person, own in held.items() if own_can(sealer, own)))
            if able:
                return number, able
        return None

    def own_tellers(self, sealer, held):
        unable = [person for person in sorted(held) if not own_can(sealer, held[person])]
        return tuple(two for two in itertools.combinations(unable, 2) if own_can(sealer, held[two[0]] + held[two[1]]))

    def test_beside_an_own_play(self):
        draw, seen = random.Random(9), {"none": 0, "one": 0, "two": 0, "tellers": 0}
        for sealer in (WHOLE, FEW, WEAKEST, ("weak", 3, 1)):
            pools = (two_sided(sealer)[::4] + [None], chance_things(sealer, 3, 12, 1), [told_entry(sealer, LOG, 1)])
            for things in pools:
                for people in (2, 3, 5):
                    for _ in range(9):
                        history = drawn_history(things, people, draw.randrange(5, 14), draw)
                        behind = play(sealer, history)
                        first = self.own_first(sealer, behind)
                        self.assertEqual(first_told(sealer, history), first)
                        pairs = self.own_tellers(sealer, behind[-1] if behind else {})
                        self.assertEqual(tellers(sealer, history), pairs)
                        seen["none" if first is None else "one" if len(first[1]) == 1 else "two"] += 1
                        seen["tellers"] += len(pairs) > 0
        self.assertGreater(min(seen.values()), 10, seen)

    def test_nothing_ever(self):
        for history in ((), (("meet", 0, 1),), (("show", 0, None), ("meet", 0, 5))):
            self.assertEqual((first_told(FEW, history), tellers(FEW, history)), (None, ()))

    def test_who_can_tell_is_no_teller(self):
        one, other = ("entry", (1, 0), 0, "a", ()), ("entry", (1, 0), 0, "c", ())
        story = (("show", 0, one), ("show", 0, other), ("show", 1, one), ("show", 2, other), ("show", 7, one))
        self.assertEqual(first_told(WEAKEST, story), (1, (0,)))
        self.assertEqual(tellers(WEAKEST, story), ((1, 2), (2, 7)))

    def test_calls(self):
        for sealer in SEALERS:
            history = drawn_history(two_sided(sealer), 4, 10, random.Random(3))
            behind = play(sealer, history)
            self.assertEqual(check_call(self, first_told, sealer, history), self.own_first(sealer, behind))
            self.assertEqual(check_call(self, tellers, sealer, history), self.own_tellers(sealer, behind[-1]))

    def test_at_the_bounds(self):
        for sealer in (WHOLE, FEW):
            _, things = great_things(sealer, TOP, 29)
            other = great_things(sealer, TOP, 1, 1)[1]
            shows = tuple(("show", at, told) for at, told in enumerate(things + other))
            history = shows + tuple(("meet", at, at + 1) for at in range(29)) + (("meet", 0, 1),)
            self.assertEqual(len(history), 60)
            self.assertEqual(first_told(sealer, history), (58, (28, 29)))
            wanted = tuple((at, 29) for at, told in enumerate(things) if can_tell(sealer, (told, *other)))
            self.assertGreater(len(wanted), 20)
            self.assertEqual(tellers(sealer, history[:30]), wanted)


class Asks(unittest.TestCase):

    def test_examples(self):
        self.assertEqual((asks((MINE, LAST)), asks((MINE, LAST, ROSE))), ((((2, AB), HEAD),), ()))
        self.assertRaises(CanNot, asks, (MINE, YOURS))

    def own_asks(self, things):
        heads = sorted({head for told in things for head in heads_in(told)})
        if not heads:
            return ()
        if [size for size, _ in heads].count(heads[-1][0]) > 1:
            return None
        led = {told[1] for told in things if told[0] == "rise" and told[2][0] > told[1][0]}
        return tuple((old, heads[-1]) for old in heads[:-1] if old[0] > 0 and old not in led)

    def test_beside_an_own_reckoning(self):
        draw, seen = random.Random(10), {"none": 0, "some": 0, "CanNot": 0}
        for sealer in (WHOLE, FEW, WEAKEST, SHA):
            things = two_sided(sealer) + all_things(sealer, LOG[:3])
            things += [("rise", own_head(sealer, LOG[:3]), (9, leaf(sealer, "a")), ())]
            for many in (0, 1, 2, 3, 6) * 20:
                own = draw.sample(things, many)
                wanted = self.own_asks(own)
                if wanted is None:
                    self.assertRaises(CanNot, asks, own)
                else:
                    self.assertEqual(repr(asks(own)), repr(wanted))
                seen["CanNot" if wanted is None else "some" if wanted else "none"] += 1
        self.assertGreater(min(seen.values()), 20)

    def test_none_one_and_several_heads(self):
        self.assertEqual(asks(()), ())
        self.assertEqual(asks([told_all(FEW, ())]), ())
        self.assertEqual(asks([told_all(FEW, LOG)]), ())
        self.assertEqual(asks([told_all(FEW, LOG), told_all(FEW, ())]), ())
        self.assertEqual(asks([("all", (0, 1), ()), ("all", (0, 5), ()), told_all(FEW, LOG)]), ())
        self.assertRaises(CanNot, asks, [("all", (0, 1), ()), ("all", (0, 5), ())])
        heads = [own_head(FEW, LOG[:size]) for size in range(9)]
        things = [told_all(FEW, LOG[:size]) for size in (3, 1, 8)]
        self.assertEqual(asks(things), ((heads[1], heads[8]), (heads[3], heads[8])))
        self.assertEqual(asks(things + [told_rise(FEW, LOG, 1, 3)]), ((heads[3], heads[8]),))
        self.assertEqual(asks(things + [told_rise(FEW, LOG, 1, 2)]), ((heads[2], heads[8]), (heads[3], heads[8])))
        self.assertEqual(asks(things + [told_rise(FEW, LOG, 3, 3)]), ((heads[1], heads[8]), (heads[3], heads[8])))
        self.assertEqual(asks([("rise", (2, 7), (4, 7), (1, 1, 1)), ("rise", (4, 7), (4, 7), ())]), ())

    def test_the_rises_of_asks_lead_each_head_to_the_greatest(self):
        for sealer in (WHOLE, FEW):
            things = [told_all(sealer, LOG[:size]) for size in (1, 2, 5, 7)] + [told_rise(sealer, LOG, 2, 5)]
            shown = things + [told_rise(sealer, LOG, old[0], head[0]) for old, head in asks(things)]
            self.assertEqual(asks(shown), ())

    def test_calls(self):
        for sealer in SEALERS:
            for things in ((), (told_all(sealer, LOG[:3]), told_entry(sealer, LOG, 2), told_rise(sealer, LOG, 2, 5))):
                self.assertEqual(repr(check_call(self, asks, things)), repr(self.own_asks(things)))


if __name__ == "__main__":
    unittest.main()
