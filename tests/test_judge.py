"""One judge [15]."""

import itertools
import random
import unittest

from leafway.errors import Unfit
from leafway.judge import comes_of, first_false, is_claim, is_paper_against, is_paper_for, is_so, paper, verdicts
from tests.helper import check_call, check_thing, listed, mixed, odd_values, variants
from tests.judged import claim_form, one_comes, so, verdict
from tests.reckoning import leaf, own_head, told_all, told_entry, told_many, told_rise
from tests.shown import chance_things, heads_in, own_known, own_rising
from tests.test_known import great_things
from tests.test_people import two_sided

SHA, WHOLE, FEW = ("sha",), ("whole",), ("weak", 1000, 5)
WEAKEST = ("weak", 2, 0)
SEALERS = (SHA, WHOLE, FEW, WEAKEST, ("weak", 10 ** 9, 10 ** 9))
LOG = ("a", "b", "c", "d", "e")
OTHER = ("a", "b", "x", "d", "e")
LONG = tuple("entry " + str(at) for at in range(300))
TOP = 10 ** 18
POOL = (True, None, -1, 0, 1, 7, "", "b", (), ("whole",), ("leaf", "a"))
A, B, C = ("leaf", "a"), ("leaf", "b"), ("leaf", "c")


def claims_of(sealer):
    """Claims of each kind, some that are so and some that are not."""
    head = own_head(sealer, LOG)
    risen = (told_entry(sealer, LOG, 1), told_rise(sealer, LOG, 3, 5), told_entry(sealer, LOG[:3], 2))
    of_both = (told_entry(sealer, LOG, 2), told_entry(sealer, OTHER, 2))
    found = [("entry", sealer, LOG, 1, "b"), ("entry", sealer, LOG, 1, "z"), ("entry", sealer, LOG, 5, "b"),
             ("entry", sealer, (), 0, ""), ("rise", sealer, LOG, own_head(sealer, LOG[:3])),
             ("rise", sealer, LOG, own_head(sealer, OTHER[:3])), ("rise", sealer, LOG, (6, leaf(sealer, "z"))),
             ("rise", sealer, LOG, head), ("rise", sealer, LOG, own_head(sealer, OTHER)),
             ("known", sealer, head, risen), ("known", sealer, head, ()),
             ("known", sealer, own_head(sealer, ()), ()), ("told", sealer, of_both), ("told", sealer, risen),
             ("told", sealer, ()), ("lie", sealer, LOG, OTHER), ("lie", sealer, LOG, LOG[:3]), ("lie", sealer, (), ()),
             ("missed", sealer, LOG, ("cut", 3), (1, 3)), ("missed", sealer, LOG, ("cut", 3), (1, 4, 5)),
             ("missed", sealer, LOG, ("alter", 2, "z"), (2, 3, 4)), ("missed", sealer, LOG, ("put", 5, "z"), ())]
    if sealer == WEAKEST:
        one, other = ("entry", (1, 0), 0, "a", ()), ("entry", (1, 0), 0, "c", ())
        found += [("known", sealer, (1, 0), (one, other)), ("told", sealer, (one, other)),
                  ("known", sealer, (1, 0), (one,))]
    return found


class Examples(unittest.TestCase):

    def test_verdicts(self):
        log, two = ("a", "b"), (2, ("node", A, B))
        claims = [("entry", WHOLE, log, 1, "b"), ("entry", WHOLE, log, 1, "c"), ("entry", WHOLE, log, 2, "b")]
        self.assertEqual(verdicts(claims, ((A,), ("b", (A,)), ())), ["for", "against", "against"])
        claims = [("rise", WHOLE, log, (1, A)), ("rise", WHOLE, log, (1, B)), ("rise", WHOLE, log, two)]
        self.assertEqual(verdicts(claims, ((B,), ((1, A), (B,)), ())), ["for", "against", "for"])
        shown, other = ("entry", two, 0, "a", (B,)), ("entry", (1, C), 0, "c", ())
        claims = [("known", WHOLE, two, (shown,)), ("told", WHOLE, (shown,)), ("told", WHOLE, (shown, other))]
        known = (two, (((0, 1), A), ((0, 2), two[1]), ((1, 2), B)), ((0, "a"),))
        self.assertEqual(verdicts(claims, (known, ("a", "x"), ((0, 1), shown, other))), ["for", "against", "for"])
        early = ("entry", two, 1, "c", (A,))
        self.assertIs(is_claim(("known", WHOLE, two, (early,))), False)
        lie = (("entry", two, 1, "b", (A,)), ("entry", (2, ("node", A, C)), 1, "c", (A,)))
        claims = [("lie", WHOLE, log, ("a", "c")), ("lie", WHOLE, ("a",), ("a", "c"))]
        self.assertEqual(verdicts(claims, (lie, ())), ["for", "against"])
        claims = [("missed", WHOLE, LOG[:3], ("drop", 1), own) for own in ((0, 1), (1, 2, 3))]
        self.assertEqual(verdicts(claims, ((), 2)), ["for", "against"])

    def test_comes_of_and_unfit(self):
        shown, other = ("entry", (2, ("node", A, B)), 0, "a", (B,)), ("entry", (1, C), 0, "c", ())
        told = (comes_of(("entry", WHOLE, ("a", "b"), 0, "a"), (("entry", WHOLE, ("a",), 0, "a"),)),
                comes_of(("told", WHOLE, (other,)), (("told", WHOLE, (shown, other)),)))
        self.assertEqual(told, (True, False))
        self.assertRaises(Unfit, is_so, ("rise", WHOLE, ("a",), (0, ("none",))))


class Claims(unittest.TestCase):

    def test_right_ones(self):
        for sealer in SEALERS:
            for claim in claims_of(sealer):
                check_thing(self, is_claim, claim, True)
                self.assertIs(claim_form(claim), True)

    def test_bent_ones(self):
        for sealer in (WHOLE, WEAKEST):
            for claim in claims_of(sealer):
                for thing in variants(claim, POOL):
                    check_thing(self, is_claim, thing, claim_form(thing))

    def test_values_of_all_kinds(self):
        for thing in odd_values():
            check_thing(self, is_claim, thing, claim_form(thing))
            for claim in claims_of(FEW):
                for at in range(len(claim)):
                    bent = claim[:at] + (thing,) + claim[at + 1:]
                    self.assertIs(is_claim(bent), claim_form(bent))

    def test_what_is_none(self):
        log = LOG[:3]
        head, great = own_head(FEW, log), told_entry(FEW, LONG + ("a",), 3)
        for thing in (("entry", FEW, log, -1, "a"), ("entry", FEW, log, True, "a"), ("entry", FEW, log, 0, "a\n"),
                      ("entry", ("weak", 1, 0), log, 0, "a"), ("entry", "sha", log, 0, "a"),
                      ("entry", FEW, list(log), 0, "a"),
                      ("rise", FEW, log, (0, 5)), ("rise", FEW, log, (1, 1000)), ("rise", FEW, log, [1, 5]),
                      ("rise", FEW, log),
                      ("known", FEW, head, (told_entry(FEW, LOG, 1),)), ("known", FEW, head, (told_all(FEW, ()),)),
                      ("known", FEW, (3, 1000), ()), ("known", FEW, head, ["entry"]), ("known", WHOLE, head, ()),
                      ("known", FEW, head, (told_entry(FEW, log, 1)[:3] + ("z", (1, 2)),)), ("told", FEW, (great,)),
                      ("told", FEW, (("entry", head, 0, "z", (1, 2)),)), ("told", FEW, ()[:0], ()), ("told", FEW, [()]),
                      ("told", FEW, (told_rise(FEW, LONG + ("a",), 3, 301),)), ("lie", FEW, log, list(log)),
                      ("lie", FEW, log),
                      ("missed", FEW, log, ("drop", 3), ()), ("missed", FEW, log, ("cut", 4), ()),
                      ("missed", FEW, log, ("cut", 1)),
                      ("missed", FEW, log, ("turn", 0, 3), ()), ("missed", FEW, log, ("cut", 1), (4,)),
                      ("missed", FEW, log, ("cut", 1), (2, 1)), ("missed", FEW, log, ("cut", 1), (1, 1)),
                      ("missed", FEW, log, ("cut", 1), (False, 1)), ("missed", FEW, log, ("cut", 1), [1]),
                      ("missed", FEW, log, ("grow", 1), ()), ("so", FEW, log, log), (["entry"], FEW, log, 0, "a"),
                      ("entry",)):
            check_thing(self, is_claim, thing, False)
            if not claim_form(tuples_alone(thing)):
                self.all_refuse(thing)
        self.assertIs(is_claim(("told", FEW, (told_entry(FEW, LONG, 3),))), True)
        self.assertIs(is_claim(("known", FEW, own_head(FEW, LONG + ("a",)), (great,))), True)
        self.assertIs(is_claim(("missed", FEW, log, ("cut", 3), (0, 3))), True)

    def all_refuse(self, claim):
        right = ("lie", FEW, (), ())
        calls = [lambda: is_so(claim), lambda: paper(claim), lambda: is_paper_for(claim, ()),
                 lambda: first_false([right, claim]),
                 lambda: is_paper_against(claim, ()), lambda: verdicts([claim], [()]),
                 lambda: verdicts([right, claim], ()),
                 lambda: comes_of(claim, ()), lambda: comes_of(right, [right, claim]), lambda: comes_of(claim, [right]),
                 lambda: first_false([("lie", FEW, (), ()), claim]), lambda: first_false((claim,))]
        for call in calls:
            self.assertRaises(Unfit, call)


def tuples_alone(value):
    """Return value with a tuple for each list in it, as a claim may be given."""
    return tuple(tuples_alone(part) for part in value) if isinstance(value, (list, tuple)) else value


class Papers(unittest.TestCase):

    def check(self, claim, thing):
        """Check what all functions tell of claim and thing; return the verdict."""
        wanted = verdict(claim, thing)
        self.assertIs(is_paper_for(claim, thing), wanted == "for", (claim, thing))
        self.assertIs(is_paper_against(claim, thing), wanted == "against", (claim, thing))
        return wanted

    def test_each_claim_has_one_and_bent_ones_are_none(self):
        for sealer in (WHOLE, FEW, WEAKEST):
            for claim in claims_of(sealer):
                right = check_call(self, paper, claim)
                wanted = "for" if so(claim) else "against"
                self.assertIs(check_call(self, is_so, claim), so(claim))
                self.assertEqual(self.check(claim, right), wanted)
                for thing in variants(right, POOL)[:400]:
                    self.check(claim, thing)

    def test_by_sha(self):
        for claim in claims_of(SHA):
            right = check_call(self, paper, claim)
            self.assertEqual(self.check(claim, right), "for" if so(claim) else "against")
            for thing in ((), 0, None, (right,), listed(right) if right else [], "a" * 64):
                self.check(claim, thing)

    def test_papers_of_one_claim_beside_another(self):
        for sealer in (WHOLE, WEAKEST):
            claims = claims_of(sealer)
            papers = [paper(claim) for claim in claims] + [True, False, 1, [], None]
            for claim in claims:
                things = [verdict(claim, thing) for thing in papers]
                self.assertEqual(verdicts([claim] * len(papers), papers), things)
                self.assertIn("none", things)

    def test_chance_seals(self):
        """By weak seals a paper of the other side may fit by chance: it is none."""
        seen = {"for": 0, "against": 0, "none": 0}
        for sealer in (WEAKEST, ("weak", 3, 1)):
            seals = range(sealer[1])
            ways = [own for length in range(4) for own in itertools.product(seals, repeat=length)]
            for log in (("a",), ("a", "c"), ("a", "b", "c")):
                heads = [own_head(sealer, log[:size]) for size in (1, 2)] + [(1, 1), (2, 0)]
                for claim in [("entry", sealer, log, place, own) for place in range(3) for own in "ac"] + \
                             [("rise", sealer, log, own) for own in heads]:
                    things = ways + [(own, way) for own in ("a", "b", "c", "e") for way in ways] + \
                        [(own, way) for own in heads for way in ways]
                    for thing in things:
                        seen[self.check(claim, thing)] += 1
        self.assertGreater(min(seen.values()), 40, seen)

    def test_known_and_told_by_weak_seals(self):
        seen = {"for": 0, "against": 0}
        draw = random.Random(12)
        for sealer in (WEAKEST, ("weak", 3, 1)):
            for size in (1, 2, 3):
                things = chance_things(sealer, size, 120, size)
                for _ in range(25):
                    own = tuple(draw.sample(things, draw.randrange(1, 5)))
                    risen = tuple(told for told in own if all(head in own_rising(own, (size, 0))
                                                              for head in heads_in(told)))
                    for claim in (("told", sealer, own), ("known", sealer, (size, 0), risen)):
                        if claim_form(claim):
                            self.assertIs(is_so(claim), so(claim))
                            seen[self.check_with_others(claim, paper(claim), sealer)] += 1
        self.assertGreater(min(seen.values()), 20, seen)

    def check_with_others(self, claim, right, sealer):
        """Check the paper of claim, and some like it; return its verdict."""
        clashes = [(("leaf", "a"), ("leaf", "c")), (("leaf", "b"), ("leaf", "d")), (("leaf", "c"), ("leaf", "a")),
                   (("leaf", "a"), ("leaf", "b")), (("leaf", "x"), ("leaf", "z"))]
        clashes += [(("node", one, two), ("node", three, four))
                    for one, two, three, four in itertools.product(range(2), repeat=4)]
        for thing in clashes + [right[::-1], right[:-1], right + ("a",), ("a",) * 3, list(right)]:
            self.check(claim, thing)
        wanted = self.check(claim, right)
        self.assertEqual(wanted, "for" if so(claim) else "against")
        return wanted

    def test_partings_of_other_things(self):
        one, other, third = (told_entry(WHOLE, log, 2) for log in (LOG, OTHER, ("a", "b", "y", "d", "e")))
        claim = ("told", WHOLE, (one, other))
        for thing, wanted in ((((2, 3), one, other), "for"), (((2, 3), other, one), "for"),
                              (((0, 5), one, other), "for"),
                              (((2, 3), one, third), "none"), (((3, 4), one, other), "none"),
                              (((2, 3), one, one), "none"),
                              (((2, 3), list(one), other), "none"), ([(2, 3), one, other], "none")):
            self.assertEqual(self.check(claim, thing), wanted)

    def test_true_is_no_number(self):
        one = ("entry", (1, 1), 0, "b", ())
        claim = ("known", WEAKEST, (1, 1), (one,))
        known = ((1, 1), (((0, 1), 1),), ((0, "b"),))
        self.assertEqual(self.check(claim, known), "for")
        for thing in (((True, 1), known[1], known[2]), ((1, True), known[1], known[2]),
                      (known[0], (((0, True), 1),), known[2]),
                      (known[0], (((False, 1), 1),), known[2]), (known[0], (((0, 1), True),), known[2]),
                      (known[0], known[1], ((False, "b"),)), (known[0], [((0, 1), 1)], known[2]), list(known)):
            self.assertEqual(self.check(claim, thing), "none")
        missed = ("missed", WHOLE, ("a", "b"), ("alter", 0, "z"), (0, 1, 2))
        for thing, wanted in ((1, "against"), (True, "none"), (2, "against"), (0, "none"), (False, "none"), (3, "none"),
                              ("1", "none"), ((1,), "none"), ((), "none"), (-1, "none")):
            self.assertEqual(self.check(missed, thing), wanted)

    def test_values_of_all_kinds(self):
        claims = claims_of(WHOLE)
        for thing in odd_values():
            wanted = [verdict(claim, thing) for claim in claims]
            self.assertEqual(verdicts(claims, [thing] * len(claims)), wanted)
            for claim, own in zip(claims[::4], wanted[::4]):
                self.assertIs(is_paper_for(claim=claim, thing=thing), own == "for")
                self.assertIs(is_paper_against(listed(claim), thing), own == "against")

    def test_lists_of_claims(self):
        for sealer in SEALERS:
            claims = tuple(claims_of(sealer))
            papers = tuple(paper(claim) for claim in claims)
            wanted = ["for" if so(claim) else "against" for claim in claims]
            for own in (claims, list(claims), listed(claims), mixed(claims)):
                for things in (papers, list(papers)):
                    self.assertEqual(verdicts(own, things), wanted)
                    self.assertEqual(verdicts(claims=own, things=things), wanted)
            inner = [list(own) if own == () else own for own in papers]
            self.assertEqual([one == "none" for one in verdicts(claims, inner)], [own == () for own in papers])
            self.assertEqual(verdicts((), ()), [])

    def test_unlike_lengths(self):
        right = ("lie", FEW, (), ())
        for claims, things in (((right,), ()), ((), ((),)), ((right, right), ((),)), ((right,), ((), ()))):
            self.assertRaises(Unfit, verdicts, claims, things)
            self.assertRaises(Unfit, verdicts, list(claims), list(things))

    def test_a_returned_list_is_new(self):
        right = ("lie", FEW, (), ())
        verdicts([right], [()]).clear()
        self.assertEqual(verdicts([right], [()]), ["against"])

    def test_at_the_bounds(self):
        for sealer in (WHOLE, FEW):
            head, things = great_things(sealer, TOP, 60)
            claim = ("known", sealer, head, things)
            known = paper(claim)
            self.assertEqual(verdicts((claim, ("known", sealer, head, ())), (known, known)), ["for", "none"])
            self.assertIs(is_so(claim), True)
            other = LONG[:299] + ("x",)
            claims = (("entry", sealer, LONG, 299, "x"), ("rise", sealer, LONG, own_head(sealer, LONG[:255])),
                      ("lie", sealer, LONG, other), ("missed", sealer, LONG, ("drop", 299), tuple(range(301))),
                      ("told", sealer, (told_all(sealer, LONG), told_all(sealer, other))),
                      ("told", sealer, (told_all(sealer, LONG), told_entry(sealer, LONG, 3))))
            self.assertEqual(verdicts(claims, [paper(own) for own in claims]),
                             ["against", "for", "for", "against", "for", "against"])

    def test_each_paper_for_known_is_what_is_known(self):
        for sealer in (WHOLE, FEW):
            head = own_head(sealer, LOG)
            things = (told_many(sealer, LOG, (0, 4)), told_rise(sealer, LOG, 2, 5))
            self.assertEqual(repr(paper(("known", sealer, head, things))), repr(own_known(sealer, head, things)))


class ComesOf(unittest.TestCase):

    def test_each_rule(self):
        one, two, three = told_entry(WHOLE, LOG, 0), told_entry(WHOLE, LOG, 1), told_rise(WHOLE, LOG, 2, 5)
        head = own_head(WHOLE, LOG)
        two_of = own_head(WHOLE, LOG[:2])
        cases = ((("entry", LOG, 0, "a"), ("entry", LOG[:1], 0, "a"), True),
                 (("entry", LOG[:1], 0, "a"), ("entry", LOG, 0, "a"), False),
                 (("entry", LOG, 0, "a"), ("entry", (), 0, "a"), True),
                 (("entry", LOG, 0, "a"), ("entry", LOG, 1, "a"), False),
                 (("entry", LOG, 0, "a"), ("entry", LOG, 0, "b"), False),
                 (("entry", LOG, 0, "a"), ("entry", OTHER[:3], 0, "a"), False),
                 (("rise", LOG, two_of), ("rise", LOG[:2], two_of), True),
                 (("rise", LOG[:2], two_of), ("rise", LOG, two_of), False),
                 (("rise", LOG, two_of), ("rise", LOG, head), False),
                 (("rise", LOG, two_of), ("rise", (), two_of), True),
                 (("known", head, (one,)), ("known", head, (two, one)), True),
                 (("known", head, ()), ("known", head, (one,)), True),
                 (("known", head, (one, two)), ("known", head, (one,)), False),
                 (("known", head, ()), ("known", two_of, ()), False),
                 (("known", head, (one, one)), ("known", head, (one,)), True),
                 (("told", (one, two)), ("told", (two,)), True),
                 (("told", (one,)), ("told", (one, three)), False), (("told", (one,)), ("told", ()), True),
                 (("told", (three, two, one)), ("told", (one, three)), True),
                 (("lie", LOG, OTHER), ("lie", OTHER, LOG), True),
                 (("lie", LOG, OTHER), ("lie", LOG[:3], OTHER[:4]), True),
                 (("lie", LOG, OTHER), ("lie", OTHER[:3], LOG[:4]), True),
                 (("lie", LOG[:3], OTHER), ("lie", LOG, OTHER), False), (("lie", LOG, OTHER), ("lie", (), ()), True),
                 (("lie", LOG, LOG), ("lie", LOG, OTHER), False), (("lie", LOG, OTHER), ("lie", LOG, LOG[:3]), False),
                 (("missed", LOG, ("cut", 2), (1, 2)), ("missed", LOG, ("cut", 2), (0, 1, 2)), True),
                 (("missed", LOG, ("cut", 2), (0, 1, 2)), ("missed", LOG, ("cut", 2), (1, 2)), False),
                 (("missed", LOG, ("cut", 2), ()), ("missed", LOG, ("cut", 2), (1, 2)), True),
                 (("missed", LOG, ("cut", 2), (1,)), ("missed", LOG, ("cut", 3), (1, 2)), False),
                 (("missed", LOG, ("cut", 2), (1,)), ("missed", LOG[:3], ("cut", 2), (1, 2)), False))
        for claim, other, wanted in cases:
            own, source = ((one[0], WHOLE, *one[1:]) for one in (claim, other))
            self.assertIs(one_comes(own, source), wanted, (claim, other))
            self.assertIs(check_call(self, comes_of, own, (source,)), wanted)
            self.assertIs(comes_of(own, (("lie", FEW, (), ()), source)), wanted)
            self.assertIs(comes_of(own, ()), False)
            self.assertIs(comes_of(own, [own]), True)

    def test_each_two_claims(self):
        claims = [claim for sealer in (WHOLE, WEAKEST) for claim in claims_of(sealer)]
        claims += [("told", WHOLE, tuple(two_sided(WHOLE)[:3])), ("told", WHOLE, tuple(two_sided(WHOLE)[:1]))]
        for claim, other in itertools.product(claims, repeat=2):
            self.assertIs(comes_of(claim, (other,)), one_comes(claim, other), (claim, other))
        for claim in claims:
            others = claims[::3]
            self.assertIs(comes_of(claim, others), any(one_comes(claim, other) for other in others))

    def test_what_comes_of_so_is_so(self):
        for sealer in (WHOLE, WEAKEST):
            claims = claims_of(sealer)
            for claim, other in itertools.product(claims, repeat=2):
                if comes_of(claim, (other,)) and is_so(other):
                    self.assertIs(is_so(claim), True)


class FirstFalse(unittest.TestCase):

    def test_some(self):
        for sealer in SEALERS:
            claims = claims_of(sealer)
            for at in range(len(claims)):
                false = [place for place, claim in enumerate(claims[at:]) if not so(claim)]
                self.assertEqual(first_false(claims[at:]), min(false, default=None))
            right = [claim for claim in claims if so(claim)]
            self.assertIs(check_call(self, first_false, right), None)
            self.assertEqual(check_call(self, first_false, right + claims), len(right) + min(
                place for place, claim in enumerate(claims) if not so(claim)))
        self.assertIs(first_false(()), None)


if __name__ == "__main__":
    unittest.main()
