"""The whole program: what each function says agrees with what the others say (section 1)."""

import itertools
import random
import unittest

from leafway.files import file_text, grown_file, left_of, mended, read_file, row_heads, rows_in
from leafway.judge import comes_of, first_false, is_claim, is_so, paper, verdicts
from leafway.known import fills, is_clash, is_taken, is_true, needed, opens, put_together, rising, tells
from leafway.lies import changed, first_head, first_place, is_lie_paper, keeps, lie_clash, lie_paper, missed, search
from leafway.many import is_all, is_many, many, many_stretches, thinned, united
from leafway.people import asks, can_tell, excuse, first_told, heads_told, holds, is_excuse, is_parting, parting
from leafway.people import tellers
from leafway.rises import is_rise, joined, rise, rise_stretches
from leafway.roots import grown, head_by, head_of, heads_along, seal_of_stretch, tops_of
from leafway.shell import shell
from leafway.texts import head_read, head_text, known_read, known_text, log_read, log_text, seal_read, seal_text
from leafway.texts import sealer_read, sealer_text, told_read, told_text
from leafway.ways import clash_of, is_shown, is_way, neighbours, way
from tests.shown import chance_things, heads_in

SHA, WHOLE, FEW = ("sha",), ("whole",), ("weak", 1000, 5)
WEAKEST = ("weak", 2, 0)
SEALERS = (SHA, WHOLE, FEW, WEAKEST)
NAMES = ("ann 5", "bob 2", "cat 9", "dan 1", "", "fay 7", "gus 3", "hal 8", "ida 4")


def shown_by(sealer, log):
    """What a server with log shows: each entry, all rises, some entries at once, all of it."""
    size, head = len(log), head_of(sealer, log)
    found = [("entry", head, place, log[place], way(sealer, log, size, place)) for place in range(size)]
    found += [("rise", head_of(sealer, log[:old]), head, rise(sealer, log, old, size)) for old in range(1, size + 1)]
    found += [many(sealer, log, size, places) for places in ((0,), (0, size - 1), tuple(range(0, size, 2)))
              if len(set(places)) == len(places)]
    return found + [("all", head, log)]


class Growing(unittest.TestCase):
    """A log that grows, entry by entry, and the file of it."""

    def test_tops_files_and_heads_agree(self):
        for sealer in SEALERS:
            tops, text, log = (0, ()), "", ()
            for entry in NAMES:
                tops, text, log = grown(sealer, tops, entry), grown_file(sealer, text, entry), log + (entry,)
                self.assertEqual(tops, tops_of(sealer, log))
                self.assertEqual(head_by(sealer, tops), head_of(sealer, log))
                self.assertEqual((text, read_file(sealer, text)), (file_text(sealer, log), log))
                self.assertEqual([(0, head_of(sealer, ())[1])] + row_heads(sealer, text), heads_along(sealer, log))
                self.assertEqual(keeps(sealer, row_heads(sealer, text), log + ("more",)), (True,) * len(log))

    def test_a_file_cut_anywhere_is_mended_and_grown_on(self):
        for sealer in (WHOLE, FEW):
            text = file_text(sealer, NAMES)
            for cut in range(0, len(text) + 1, 3):
                left = mended(sealer, text[:cut])
                self.assertEqual(mended(sealer, left), left)
                log = read_file(sealer, left)
                self.assertEqual(log, NAMES[:left_of(sealer, NAMES, cut)])
                self.assertEqual(len(log), rows_in(sealer, text[:cut]))
                for entry in NAMES[len(log):]:
                    left = grown_file(sealer, left, entry)
                self.assertEqual(left, text)


class Showing(unittest.TestCase):
    """What a log shows is taken, true, written and read, put together, and filled by the log."""

    def test_all_that_is_shown_of_one_log(self):
        for sealer in SEALERS:
            for size in (1, 2, 5, 9) if sealer != SHA else (5,):
                log = NAMES[:size]
                things = tuple(shown_by(sealer, log))
                for told in things:
                    self.check_one(sealer, told, log)
                head = head_of(sealer, log)
                word, known = put_together(sealer, head, things)
                self.assertEqual((word, needed(known), fills(sealer, known, log)), ("known", (), True))
                self.assertEqual(known[2], tuple(enumerate(log)))
                self.assertEqual(known_read(sealer, known_text(sealer, known)), known)
                self.assertEqual(told_read(sealer, told_text(sealer, things)), things)
                self.assertEqual(rising(things, head), heads_told(things))
                self.assertEqual((asks(things), can_tell(sealer, things)), ((), False))

    def check_one(self, sealer, told, log):
        kinds = [is_shown(sealer, told), is_rise(sealer, told), is_many(sealer, told), is_all(sealer, told)]
        self.assertEqual(kinds, [told[0] == own for own in ("entry", "rise", "many", "all")])
        self.assertIs(is_taken(sealer, told), True)
        self.assertIs(is_true(sealer, told, log), True)
        self.assertIs(is_true(sealer, told, log + ("more",)), True)
        seals = dict(tells(sealer, told))
        for stretch, seal in seals.items():
            self.assertEqual(seal_of_stretch(sealer, log, stretch), seal)
            self.assertEqual(seal_read(sealer, seal_text(sealer, seal)), seal)
        self.assertLessEqual({stretch for stretch, _ in opens(sealer, told)}, set(seals))
        for head in heads_in(told):
            self.assertEqual(head_read(sealer, head_text(sealer, head)), head)
        if told[0] == "entry":
            self.assertEqual(tuple(seals[own] for own in neighbours(told[1][0], told[2])), told[4])
        if told[0] == "rise":
            self.assertEqual(tuple(seals[own] for own in rise_stretches(told[1][0], told[2][0])), told[3])
        if told[0] == "many":
            places = tuple(place for place, _ in told[2])
            self.assertEqual(tuple(seals[own] for own in many_stretches(told[1][0], places)), told[3])

    def test_thinned_united_and_joined_tell_no_more(self):
        for sealer in (WHOLE, FEW):
            told = many(sealer, NAMES, 9, (1, 4, 8))
            parts = [thinned(sealer, told, own) for own in ((1,), (4, 8))]
            self.assertEqual(united(sealer, *parts), told)
            known = put_together(sealer, head_of(sealer, NAMES), parts)
            self.assertEqual(known, put_together(sealer, head_of(sealer, NAMES), (told, *parts)))
            for part in parts:
                self.assertLessEqual(set(tells(sealer, part)), set(tells(sealer, told)))
            rises = [("rise", head_of(sealer, NAMES[:old]), head_of(sealer, NAMES[:size]),
                      rise(sealer, NAMES, old, size))
                     for old, size in ((3, 6), (6, 9), (3, 9))]
            self.assertEqual(joined(sealer, rises[0], rises[1]), rises[2])
            self.assertLessEqual(set(tells(sealer, rises[2])),
                                 set(tells(sealer, rises[0])) | set(tells(sealer, rises[1])))


class Judging(unittest.TestCase):
    """Claims about what was shown, and their papers."""

    def test_claims_agree_with_what_they_are_about(self):
        draw = random.Random(14)
        for sealer in (WHOLE, FEW, WEAKEST):
            for _ in range(12):
                log = NAMES[:draw.randrange(1, 7)]
                change = draw.choice([("alter", 0, "new"), ("drop", len(log) - 1), ("turn", 0, len(log) - 1),
                                      ("cut", len(log) // 2), ("put", len(log), "new")])
                other = changed(log, change)
                sizes = tuple(sorted(draw.sample(range(len(log) + 1), 2)))
                things = tuple(draw.sample(shown_by(sealer, log) + (shown_by(sealer, other) if other else []), 3))
                self.check(sealer, log, other, change, sizes, things)

    def check(self, sealer, log, other, change, sizes, things):
        head, small = head_of(sealer, log), min(len(log), len(other))
        claims = [("entry", sealer, other, 0, log[0]), ("rise", sealer, other, head), ("lie", sealer, log, other),
                  ("missed", sealer, log, change, sizes), ("told", sealer, things)]
        wanted = [other[:1] == log[:1], keeps(sealer, [head], other)[0], log[:small] != other[:small],
                  missed(sealer, log, change, sizes), can_tell(sealer, things)]
        if all(own in rising(things, head) for told in things for own in heads_in(told)):
            claims.append(("known", sealer, head, things))
            wanted.append(put_together(sealer, head, things)[0] == "known")
        self.assertTrue(all(is_claim(own) for own in claims))
        self.assertEqual([is_so(own) for own in claims], wanted)
        papers = [paper(own) for own in claims]
        self.assertEqual(verdicts(claims, papers), ["for" if own else "against" for own in wanted])
        self.assertEqual(first_false(claims), wanted.index(False) if False in wanted else None)
        self.assertTrue(all(comes_of(own, claims) for own in claims))
        if wanted[2]:
            self.assertEqual(papers[2], lie_paper(sealer, log, other))
        if not wanted[4]:
            self.assertIs(is_excuse(sealer, things, papers[4]), True)
            self.assertEqual(papers[4], excuse(sealer, things))


class Lying(unittest.TestCase):
    """A server shows unlike logs; who meets whom tells, and a third judges."""

    def test_first_place_first_head_search_and_papers_agree(self):
        for change in [("alter", at, "new") for at in range(9)] + [("drop", 3), ("turn", 2, 7), ("put", 4, "new")]:
            other = changed(NAMES, change)
            place = first_place(NAMES, other)
            for sealer in (SHA, WHOLE):
                self.assertEqual(first_head(sealer, NAMES, other), place + 1)
                self.assertEqual(search(sealer, NAMES, other)[1], place)
                self.assertEqual([missed(sealer, NAMES, change, (size,)) for size in range(10)],
                                 [size <= place for size in range(10)])
                one, two = lie_paper(sealer, NAMES, other)
                self.assertEqual((one[2], is_lie_paper(sealer, (one, two))), (place, True))
                found = parting(sealer, (one, two))
                self.assertIs(is_parting(sealer, found), True)
                self.assertEqual(verdicts([("told", sealer, (one, two))], [found]), ["for"])

    def test_who_meets_tells(self):
        for sealer in (WHOLE, SHA):
            other = changed(NAMES, ("alter", 3, "dan 2"))
            one, two = lie_paper(sealer, NAMES, other)
            calm = many(sealer, NAMES[:3], 3, (0, 2))
            story = [("show", 0, one), ("show", 1, two), ("show", 2, calm), ("meet", 0, 2), ("meet", 1, 2)]
            self.assertEqual(tellers(sealer, story[:4]), ((0, 1), (1, 2)))
            self.assertEqual(first_told(sealer, story), (4, (1, 2)))
            self.assertEqual(tellers(sealer, story), ())
            for many_events in range(6):
                held = [holds(sealer, story[:many_events], person) for person in range(3)]
                told = first_told(sealer, story[:many_events])
                self.assertEqual(told is not None, any(can_tell(sealer, own) for own in held))
                for own in held:
                    if not can_tell(sealer, own):
                        self.assertEqual(len(excuse(sealer, own)), max([head[0] for head in heads_told(own)],
                                                                       default=0))

    def test_a_lie_paper_and_a_log_with_both_heads_tell_a_clash(self):
        count = 0
        for sealer in (WEAKEST, ("weak", 3, 1)):
            for log, other in itertools.product(itertools.product("abcd", repeat=3), repeat=2):
                if first_place(log, other) is None or head_of(sealer, log) != head_of(sealer, other):
                    continue
                pair = lie_paper(sealer, log, other)
                found = lie_clash(sealer, pair, log)
                self.assertIs(is_clash(sealer, found), True)
                head, place = pair[0][1], pair[0][2]
                self.assertEqual(found, clash_of(sealer, head, place, pair[1][3:], pair[0][3:]))
                self.assertEqual(put_together(sealer, head, pair)[0], "clash")
                count += 1
        self.assertGreater(count, 500)

    def test_what_was_taken_is_true_or_a_clash_is_told(self):
        """The main guarantee (a): under heads that rise to the head of a log."""
        seen = {"true": 0, "clash": 0}
        for sealer in (WEAKEST, ("weak", 3, 1), ("weak", 7, 2)):
            for log in (("a",), ("a", "b"), ("c", "a", "d"), ("a", "b", "c", "d", "a")):
                head, size = head_of(sealer, log), len(log)
                things = []
                for told in chance_things(sealer, size, 400, size):
                    heads = rising(things + [told], head)
                    if len(things) < 8 and all(own in heads for own in heads_in(told)):
                        things.append(told)
                        whole = put_together(sealer, head, things + [("all", head, log)])
                        everything = all(is_true(sealer, own, log) for own in things)
                        self.assertTrue(everything or whole[0] == "clash")
                        seen["true" if everything else "clash"] += 1
        self.assertGreater(min(seen.values()), 5, seen)


class Asking(unittest.TestCase):
    """The shell says what the functions say."""

    def test_one_long_talk(self):
        for sealer in SEALERS:
            log, other = NAMES[:6], changed(NAMES[:6], ("alter", 2, "cat 8"))
            extra = tuple(shown_by(sealer, other)[:2])
            lines = ["sealer", " " + sealer_text(sealer), "log"] + [" " + line for line in log_text(log).split("\n")]
            lines += ["show 0 1", "rise 0 4", "all 1", "alter 2", " text cat 8", "show 2 2", "give 3"]
            lines += [" " + line for line in told_text(sealer, extra).split("\n")]
            lines += ["head 6", "meet 1 2", "first", "tellers", "things 2", "tells 3", "undo", "first"]
            replies = shell("\n".join(lines))
            shown = shown_by(sealer, log)
            story = [("show", 0, shown[1]), ("show", 0, shown[6 + 3]), ("show", 1, shown[-1]),
                     ("show", 2, shown_by(sealer, other)[2])] + [("show", 3, own) for own in extra] + [("meet", 1, 2)]
            first, before = first_told(sealer, story), first_told(sealer, story[:-1])
            wanted = [head_text(sealer, head_of(sealer, other)), "done",
                      "-" if first is None else " ".join(map(str, (first[0],) + first[1])),
                      " ".join(str(own) for pair in tellers(sealer, story) for own in pair) or "-",
                      told_text(sealer, holds(sealer, story, 2)),
                      "yes" if can_tell(sealer, holds(sealer, story, 3)) else "no", "meet",
                      "-" if before is None else " ".join(map(str, (before[0],) + before[1]))]
            self.assertEqual(replies, ["done"] * 8 + wanted)
            self.assertEqual(told_read(sealer, replies[12]), holds(sealer, story, 2))

    def test_texts_of_what_the_shell_holds(self):
        for sealer in SEALERS:
            self.assertEqual(sealer_read(sealer_text(sealer)), sealer)
            self.assertEqual(log_read(log_text(NAMES)), NAMES)
            self.assertIs(is_way(sealer, head_of(sealer, NAMES), 4, "", way(sealer, NAMES, 9, 4)), True)


if __name__ == "__main__":
    unittest.main()
