"""Roots, heads and tops [3] [6]."""

import unittest

from leafway.errors import NoPlace, Unfit
from leafway.roots import crown, grown, head_by, head_of, heads_along, is_head, is_tops, root, seal_of_stretch
from leafway.roots import stretches, tops_of
from leafway.seals import is_seal
from tests.helper import check_call, check_thing, listed, odd_values, variants
from tests.reckoning import head_form, leaf, node, own_crown, own_head, own_root, own_seal, tops_form, tree_hash

SHA, WHOLE, FEW = ("sha",), ("whole",), ("weak", 1000, 5)
SEALERS = (SHA, WHOLE, FEW, ("weak", 2, 0), ("weak", 10 ** 9, 10 ** 9))
LOG = ("a", "b", "c", "d", "e")
LONG = tuple("entry " + str(at) for at in range(300))
HUGE = (10 ** 18, 10 ** 18 - 1, 2 ** 59, 2 ** 59 - 1, 2 ** 59 + 1, 10 ** 17 + 12345, 3 * 2 ** 58)
POOL = (True, None, -1, 0, 7, "", "0" * 64, (), ("none",), ("leaf", "a"), 10 ** 5000)


def some_seals(sealer, many):
    """So many seals by sealer, of no log in particular."""
    if sealer[0] == "weak":
        return tuple((at * 7 + 1) % sealer[1] for at in range(many))
    return tuple(own_seal(sealer, ("leaf", "seal " + str(at))) for at in range(many))


def own_longer(sealer, parts, entry):
    """Parts, pairs of how many places and the seal of each stretch, with entry more: as grown tells."""
    parts = parts + [(1, leaf(sealer, entry))]
    while len(parts) > 1 and parts[-1][0] == parts[-2][0]:
        (many, left), (_, right) = parts[-2:]
        parts = parts[:-2] + [(2 * many, node(sealer, left, right))]
    return parts


def from_the_right(sealer, seals):
    """The root by the seals of tops, as the guarantee tells it."""
    if not seals:
        return own_seal(sealer, ("none",))
    if len(seals) == 1:
        return seals[0]
    return node(sealer, seals[0], from_the_right(sealer, seals[1:]))


class Crown(unittest.TestCase):

    def test_examples(self):
        self.assertEqual([crown(own) for own in (2, 3, 4, 5, 8, 9)], [1, 2, 2, 4, 4, 8])
        with self.assertRaises(Unfit):
            crown(1)

    def test_below_two(self):
        for size in (1, 0, -1, -2, -10 ** 18):
            with self.assertRaises(Unfit):
                crown(size)

    def test_small_ones_and_each_power_of_2_and_beside_it(self):
        powers = [2 ** at for at in range(1, 61)]
        sizes = list(range(2, 200)) + [power + by for power in powers for by in (-1, 0, 1)] + list(HUGE)
        for size in sizes:
            if size > 1:
                self.assertEqual(check_call(self, crown, size), own_crown(size))


class Roots(unittest.TestCase):

    def test_examples(self):
        self.assertEqual(repr(root(WHOLE, ("a", "b", "c"))),
                         repr(("node", ("node", ("leaf", "a"), ("leaf", "b")), ("leaf", "c"))))
        self.assertEqual(heads_along(FEW, LOG), [(0, 5), (1, 883), (2, 840), (3, 542), (4, 467), (5, 937)])
        self.assertEqual(root(SHA, ("ann 5", "bob 2")),
                         "d1aed2e77781759205eb39382031ffdd14bf35d1f3013049e0f786d18a1390e5")

    def test_small_logs_beside_own_roots(self):
        for sealer in SEALERS:
            for size in range(21):
                for log in (LONG[:size], ("a",) * size):
                    self.assertEqual(check_call(self, root, sealer, log), own_root(sealer, log))
                    self.assertEqual(repr(check_call(self, head_of, sealer, log)), repr(own_head(sealer, log)))

    def test_sha_roots_are_those_of_rfc_6962(self):
        for size in list(range(21)) + [39, 40]:
            self.assertEqual(root(SHA, LONG[:size]), tree_hash(LONG[:size]).hex())
        self.assertEqual(root(SHA, ("~" * 200, "")), tree_hash(("~" * 200, "")).hex())

    def test_long_logs(self):
        for sealer in (WHOLE, FEW, ("weak", 10 ** 9, 10 ** 9)):
            for size in (255, 256, 257, 299, 300):
                self.assertEqual(head_of(sealer, LONG[:size]), own_head(sealer, LONG[:size]))

    def test_heads_along(self):
        for sealer in SEALERS:
            for size in (0, 1, 2, 3, 7, 8, 20):
                told = check_call(self, heads_along, sealer, LONG[:size])
                self.assertEqual(repr(told), repr([own_head(sealer, LONG[:own]) for own in range(size + 1)]))
                self.assertIs(type(told), list)
        told = heads_along(FEW, LONG)
        self.assertEqual(told, [own_head(FEW, LONG[:own]) for own in range(301)])
        told.append("own")
        self.assertEqual(len(heads_along(FEW, LONG)), 301)

    def test_roots_are_seals(self):
        for sealer in SEALERS:
            for size in range(8):
                self.assertIs(is_seal(sealer, root(sealer, LONG[:size])), True)
                self.assertIs(is_head(sealer, head_of(sealer, LONG[:size])), True)


class Stretches(unittest.TestCase):

    def test_examples(self):
        self.assertEqual((stretches(0), stretches(6), stretches(13)),
                         ((), ((0, 4), (4, 6)), ((0, 8), (8, 12), (12, 13))))
        told = [seal_of_stretch(FEW, LOG, own) for own in ((0, 2), (2, 4), (0, 4), (4, 5), (1, 3))]
        self.assertEqual(told, [840, 860, 467, 887, 850])
        with self.assertRaises(NoPlace) as caught:
            seal_of_stretch(FEW, LOG, (4, 7))
        self.assertEqual(caught.exception.place, 6)

    def test_stretches_of_sizes(self):
        for size in list(range(65)) + list(HUGE):
            told = check_call(self, stretches, size)
            self.assertIs(type(told), tuple)
            self.assertEqual(len(told), bin(size).count("1"))
            reached = 0
            for begin, end in told:
                self.assertEqual(begin, reached)
                self.assertEqual(end - begin, own_crown(size - begin + 1))
                reached = end
            self.assertEqual(reached, size)

    def test_the_root_comes_of_the_stretches_from_the_right(self):
        for sealer in SEALERS:
            for size in range(1, 21):
                log = LONG[:size]
                seals = tuple(seal_of_stretch(sealer, log, own) for own in stretches(size))
                self.assertEqual(from_the_right(sealer, seals), root(sealer, log))

    def test_seals_of_all_stretches(self):
        for sealer in SEALERS:
            log = LONG[:9]
            for begin in range(9):
                for end in range(begin + 1, 10):
                    told = check_call(self, seal_of_stretch, sealer, log, (begin, end))
                    self.assertEqual(repr(told), repr(own_root(sealer, log[begin:end])))

    def test_stretches_that_the_log_has_not(self):
        for log in ((), ("a",), LOG, LONG):
            for begin in (0, len(log) // 2, len(log), len(log) + 3, 10 ** 17):
                for end in (len(log) + 1, len(log) + 2, len(log) + 20, 10 ** 18):
                    if begin < end:
                        for stretch in ((begin, end), [begin, end]):
                            with self.assertRaises(NoPlace) as caught:
                                seal_of_stretch(FEW, log, stretch)
                            self.assertEqual(caught.exception.place, end - 1)


class Tops(unittest.TestCase):

    def test_examples(self):
        self.assertEqual((tops_of(FEW, LOG), grown(FEW, (5, (467, 887)), "f"), head_by(FEW, (5, (467, 887))),
                          head_by(FEW, (0, ()))), ((5, (467, 887)), (6, (467, 880)), (5, 937), (0, 5)))
        self.assertEqual(tops_of(FEW, LOG + ("f",)), grown(FEW, tops_of(FEW, LOG), "f"))

    def test_tops_grow_entry_by_entry(self):
        for sealer in SEALERS:
            tops = tops_of(sealer, ())
            self.assertEqual(repr(tops), "(0, ())")
            for size in range(21):
                log = LONG[:size]
                seals = tuple(own_root(sealer, log[begin:end]) for begin, end in stretches(size))
                self.assertEqual(repr(check_call(self, tops_of, sealer, log)), repr((size, seals)))
                self.assertEqual(tops, (size, seals))
                self.assertIs(is_tops(sealer, tops), True)
                self.assertEqual(repr(check_call(self, head_by, sealer, tops)), repr(own_head(sealer, log)))
                tops = check_call(self, grown, sealer, tops, LONG[size])

    def test_tops_of_long_logs(self):
        tops = (0, ())
        for size in range(300):
            tops = grown(FEW, tops, LONG[size])
            self.assertEqual(tops, tops_of(FEW, LONG[:size + 1]))
            self.assertEqual(head_by(FEW, tops), own_head(FEW, LONG[:size + 1]))
        self.assertEqual(tops_of(WHOLE, LONG)[1], tuple(own_root(WHOLE, LONG[b:e]) for b, e in stretches(300)))

    def test_tops_of_no_log(self):
        sizes = list(range(1, 40)) + list(HUGE) + [2 ** 60 - 1, 2 ** 59 + 2 ** 20 - 1]
        for sealer in SEALERS:
            for size in sizes:
                seals = some_seals(sealer, bin(size).count("1"))
                told = check_call(self, head_by, sealer, (size, seals))
                self.assertEqual(repr(told), repr((size, from_the_right(sealer, seals))))
                parts = [(end - begin, seal) for (begin, end), seal in zip(stretches(size), seals)]
                wanted = tuple(seal for _, seal in own_longer(sealer, parts, "x~"))
                told = check_call(self, grown, sealer, (size, seals), "x~")
                self.assertEqual(repr(told), repr((size + 1, wanted)))

    def test_seals_whose_halves_are_one_object(self):
        seals = [("leaf", "a")]
        for _ in range(60):
            seals.append(("node", seals[-1], seals[-1]))
        for height in (1, 30, 60):
            self.assertEqual(grown(WHOLE, (2 ** height - 1, tuple(seals[:height][::-1])), "a"),
                             (2 ** height, (seals[height],)))
            self.assertEqual(head_by(WHOLE, (2 ** height, (seals[height],))), (2 ** height, seals[height]))


class Forms(unittest.TestCase):

    def test_examples(self):
        self.assertEqual([is_head(FEW, (5, 0)), is_head(FEW, (5, 1000)), is_head(FEW, [5, 0])], [True, False, False])
        self.assertEqual([is_tops(FEW, (5, (1, 2))), is_tops(FEW, (5, (1, 2, 3))), is_tops(FEW, (2 ** 60, (7,)))],
                         [True, False, True])

    def test_right_heads(self):
        for sealer in SEALERS:
            for size in (0, 1, 2, 300, 10 ** 18, 10 ** 5000):
                for seal in some_seals(sealer, 3):
                    check_thing(self, is_head, (size, seal), True, sealer)
                    for wrong in ([size, seal], (size, seal, seal), (seal, size, size), (size,), (seal,), seal, size,
                                  ((size, seal),), (True, seal), (None, seal), (-1, seal), ("9", seal), ((9,), seal),
                                  (size, None), (size, True), (size, (seal,)), (size, [seal])):
                        check_thing(self, is_head, wrong, False, sealer)

    def test_right_tops(self):
        for sealer in SEALERS:
            for size in (0, 1, 2, 3, 7, 8, 20, 300, 10 ** 18, 2 ** 60 - 1, 10 ** 5000, 2 ** 20000):
                seals = some_seals(sealer, bin(size).count("1"))
                check_thing(self, is_tops, (size, seals), True, sealer)
                more = some_seals(sealer, len(seals) + 1)
                for wrong in ((size, more), (size, list(seals)), [size, seals], (size, seals, seals), (size, *more),
                              (-size - 1, seals), (True, seals), (None, seals), (size, None),
                              (size, (True,) + seals[1:]), (size, seals + (None,)), (size, (seals,) + seals[1:]),
                              (seals, size), ((size, seals),)):
                    check_thing(self, is_tops, wrong, False, sealer)
                if seals:
                    check_thing(self, is_tops, (size, seals[1:]), False, sealer)
                    check_thing(self, is_tops, (size, seals[:-1] + ([seals[-1]],)), False, sealer)

    def test_things_bent_in_one_part(self):
        for sealer in SEALERS:
            for size in (0, 1, 5, 7):
                tops, head = tops_of(sealer, LONG[:size]), head_of(sealer, LONG[:size])
                for thing in variants(tops, POOL) + variants(head, POOL) + [tops, head]:
                    check_thing(self, is_tops, thing, tops_form(sealer, thing), sealer)
                    check_thing(self, is_head, thing, head_form(sealer, thing), sealer)

    def test_values_of_all_kinds(self):
        for thing in odd_values():
            for sealer in (SHA, WHOLE, FEW):
                check_thing(self, is_head, thing, head_form(sealer, thing), sealer)
                check_thing(self, is_tops, thing, tops_form(sealer, thing), sealer)

    def test_great_things(self):
        seal = ("leaf", "a")
        for _ in range(98):
            seal = ("node", seal, seal)
        self.assertIs(is_head(WHOLE, (10 ** 18, seal)), True)
        self.assertIs(is_tops(WHOLE, (2 ** 61 + 1, (seal, seal))), True)
        self.assertIs(is_tops(WHOLE, (2 ** 61 + 1, (seal, listed(("leaf", "a"))))), False)
        self.assertIs(is_tops(FEW, (2 ** 100000 - 1, (7,) * 100000)), True)
        self.assertIs(is_tops(FEW, (2 ** 100000 - 1, (7,) * 99999)), False)


if __name__ == "__main__":
    unittest.main()
