"""A shell [16]."""

import random
import re
import unittest

from leafway import errors
from leafway.errors import BadText, CanNot, NoPlace, TooMuch, Unfit
from leafway.lies import changed
from leafway.people import can_tell, first_told, holds, tellers
from leafway.shell import is_request, shell
from leafway.texts import log_text, log_read, sealer_read, sealer_text, told_read, told_text
from tests.helper import check_thing, odd_values
from tests.reckoning import own_head, told_all, told_entry, told_many, told_rise
from tests.shown import chance_things
from tests.written import own_head_text, own_log_text, own_told_text

FIRST = ("weak", 1000, 0)
NUMBER = "(0|[1-9][0-9]{0,5})"
FORMS = {"sealer": 0, "log": 0, "grow": 0, "alter": 1, "put": 1, "drop": 1, "turn": 2, "cut": 1, "show": 2, "rise": 2,
         "all": 1, "give": 1, "meet": 2, "undo": 0, "size": 0, "head": 1, "holds": 1, "things": 1, "tells": 1,
         "first": 0, "tellers": 0}
WITH_TEXT = ("sealer", "log", "grow", "alter", "put", "give")
FIRST_LOG = "log\n text a\n text b\n text c\n"


def request(line, text=None):
    """The lines of a request."""
    return line if text is None else "\n".join([line] + [" " + own for own in text.split("\n")])


class OwnShell:
    """An own play of the requests, each by the words of the table."""

    def __init__(self):
        self.now = (FIRST, (), ())
        self.before = []

    def reply(self, line, text):
        word, *figures = line.split(" ")
        numbers = [int(own) for own in figures]
        try:
            if word == "undo":
                if not self.before:
                    raise CanNot()
                word, self.now = self.before.pop()
                return word
            told = self.answer(word, *numbers)
            if told is not None:
                return told
            later = self.deed(word, numbers, text)
        except (NoPlace, BadText, CanNot, Unfit, TooMuch) as error:
            return "refused " + type(error).__name__
        self.before.append((word, self.now))
        self.now = later
        return "done"

    def answer(self, word, *numbers):
        sealer, log, history = self.now
        if word == "size":
            return str(len(log))
        if word == "head":
            if numbers[0] > len(log):
                raise Unfit()
            return own_head_text(sealer, own_head(sealer, log[:numbers[0]]))
        if word == "first":
            told = first_told(sealer, history)
            return "-" if told is None else " ".join(map(str, (told[0],) + told[1]))
        if word == "tellers":
            return " ".join(str(own) for pair in tellers(sealer, history) for own in pair) or "-"
        if word in ("holds", "things", "tells"):
            own = holds(sealer, history, numbers[0])
            return {"holds": str(len(own)), "things": own_told_text(sealer, own) if own else "-",
                    "tells": "yes" if can_tell(sealer, own) else "no"}[word]
        return None

    def deed(self, word, numbers, text):
        sealer, log, history = self.now
        if word == "sealer":
            return sealer_read(text), (), ()
        if word == "log":
            return sealer, log_read(text), history
        if word == "grow":
            return sealer, log + log_read(text), history
        if word in ("alter", "put"):
            own = log_read(text)
            if len(own) != 1:
                raise Unfit()
            return sealer, changed(log, (word, numbers[0], own[0])), history
        if word in ("drop", "turn", "cut"):
            return sealer, changed(log, (word, *numbers)), history
        return sealer, log, history + self.events(word, numbers, text)

    def events(self, word, numbers, text):
        sealer, log, _ = self.now
        if word == "meet":
            if numbers[0] == numbers[1]:
                raise Unfit()
            return (("meet", *numbers),)
        if word == "show" and numbers[1] >= len(log):
            raise NoPlace(numbers[1])
        if word == "rise" and not 1 <= numbers[1] <= len(log):
            raise Unfit()
        shown = {"show": lambda: [told_entry(sealer, log, numbers[1])], "all": lambda: [told_all(sealer, log)],
                 "rise": lambda: [told_rise(sealer, log, numbers[1], len(log))],
                 "give": lambda: told_read(sealer, text)}[word]()
        return tuple(("show", numbers[0], told) for told in shown)


def request_form(thing):
    """Whether thing is a string that is one request."""
    if type(thing) is not str:
        return False
    line, *text = thing.split("\n")
    word = line.split(" ")[0]
    if word not in FORMS or not re.fullmatch(" ".join([word] + [NUMBER] * FORMS[word]), line):
        return False
    return (word in WITH_TEXT) == (text != []) and all(own[:1] == " " for own in text)


class Shells(unittest.TestCase):

    def refused(self, text, line):
        with self.assertRaises(BadText, msg=text) as caught:
            shell(text)
        self.assertEqual(caught.exception.line, line)

    def test_examples(self):
        text = ("sealer\n whole\ngrow\n text a\n text b\nsize\nhead 1\nshow 0 1\nalter 1\n text c\nshow 1 1\nholds 0\n"
                "tells 0\ntellers\nfirst\nmeet 0 1\ntells 1\nfirst\nundo\ntells 1\nthings 1")
        self.assertEqual(shell(text), ["done", "done", "2", "head 1 L1:a", "done", "done", "done", "1", "no", "0 1",
                                       "-",
                                       "done", "yes", "2 0 1", "meet", "no",
                                       "entry\nhead 2 NL1:aL1:c\nat 1 c\nseal L1:a"])
        text = ("log\n text x\nshow 0 1\nrise 0 0\nrise 0 1\nmeet 2 2\ndrop 1\nalter 0\n text y\n"
                " text z\ngive 3\n entry\n"
                "cut 0\nsize\nall 4\nholds 4\nthings 0\nhead 1\nundo\nundo\nundo\nundo\nundo")
        self.assertEqual(shell(text), ["done", "refused NoPlace", "refused Unfit", "done", "refused Unfit",
                                       "refused NoPlace", "refused Unfit", "refused BadText", "done", "0", "done", "1",
                                       "rise\nold 1 251\nhead 1 251", "refused Unfit", "all", "cut", "rise", "log",
                                       "refused CanNot"])
        told = [is_request(own) for own in ("turn 0 12", "turn 1", "log", "give 0\n x", "show 1", "cut 01")]
        self.assertEqual(told, [True, False, False, True, False, False])
        self.refused("size\n\nfirst", 2)

    def test_nothing(self):
        self.assertEqual((shell(""), shell(text="")), ([], []))

    def test_a_returned_list_is_new(self):
        shell("size").append("1")
        self.assertEqual(shell("size"), ["0"])

    def test_at_first(self):
        self.assertEqual(shell("size\nhead 0\nhead 1\nfirst\ntellers\nholds 0\nthings 7\ntells 0\nundo"),
                         ["0", "head 0 0", "refused Unfit", "-", "-", "0", "-", "no", "refused CanNot"])
        self.assertEqual(shell("grow\n text a\nhead 1"), ["done", own_head_text(FIRST, own_head(FIRST, ("a",)))])

    def test_sealers(self):
        for sealer in (("sha",), ("whole",), ("weak", 2, 0), ("weak", 10 ** 9, 7)):
            text = FIRST_LOG + "all 0\n" + request("sealer",
                                                   sealer_text(sealer)) + "\nsize\nholds 0\n" + FIRST_LOG + "head 3"
            wanted = own_head_text(sealer, own_head(sealer, ("a", "b", "c")))
            self.assertEqual(shell(text), ["done", "done", "done", "0", "0", "done", wanted])
        for text in ("", "weak 1 0", "Sha", "sha\nsha", "weak 2", "\n", "sha\n"):
            self.assertEqual(shell(FIRST_LOG + request("sealer", text) + "\nsize\nundo\nundo"),
                             ["done", "refused BadText", "3", "log", "refused CanNot"])

    def test_logs_and_changes(self):
        for line, text, reply, log in (("log", "text x\ntext ", "done", ("x", "")), ("log", "", "done", ()),
                                       ("log", "text", "refused BadText", None), ("log", "\n", "refused BadText", None),
                                       ("grow", "text d", "done", ("a", "b", "c", "d")),
                                       ("grow", "", "done", ("a", "b", "c")),
                                       ("grow", "text d\n", "refused BadText", None),
                                       ("alter 2", "text z", "done", ("a", "b", "z")),
                                       ("alter 3", "text z", "refused NoPlace", None),
                                       ("alter 3", "z", "refused BadText", None),
                                       ("alter 3", "", "refused Unfit", None),
                                       ("alter 0", "text y\ntext z", "refused Unfit", None),
                                       ("alter 0", "text ", "done", ("", "b", "c")),
                                       ("put 3", "text z", "done", ("a", "b", "c", "z")),
                                       ("put 0", "text z", "done", ("z", "a", "b", "c")),
                                       ("put 4", "text z", "refused NoPlace", None),
                                       ("put 4", "", "refused Unfit", None), ("drop 0", None, "done", ("b", "c")),
                                       ("drop 3", None, "refused NoPlace", None),
                                       ("turn 0 2", None, "done", ("c", "b", "a")),
                                       ("turn 0 3", None, "refused NoPlace", None),
                                       ("turn 3 0", None, "refused NoPlace", None),
                                       ("turn 1 1", None, "done", ("a", "b", "c")),
                                       ("cut 3", None, "done", ("a", "b", "c")),
                                       ("cut 1", None, "done", ("a",)), ("cut 0", None, "done", ()),
                                       ("cut 4", None, "refused NoPlace", None),
                                       ("drop 999999", None, "refused NoPlace", None)):
            behind = ("a", "b", "c") if log is None else log
            replies = shell(FIRST_LOG + request(line, text) + "\nsize\nall 0\nthings 0\nundo\nundo\nundo")
            last = ["all", "log", "refused CanNot"] if log is None else ["all", line.split(" ")[0], "log"]
            wanted = ["done", reply, str(len(behind)), "done", own_told_text(FIRST, [told_all(FIRST, behind)])] + last
            self.assertEqual(replies, wanted, line)

    def test_shown_things(self):
        log = ("a", "b", "c")
        for line, reply, told in (("show 5 0", "done", told_entry(FIRST, log, 0)),
                                  ("show 5 2", "done", told_entry(FIRST, log, 2)),
                                  ("show 5 3", "refused NoPlace", None),
                                  ("rise 5 1", "done", told_rise(FIRST, log, 1, 3)),
                                  ("rise 5 3", "done", told_rise(FIRST, log, 3, 3)),
                                  ("rise 5 0", "refused Unfit", None),
                                  ("rise 5 4", "refused Unfit", None), ("all 5", "done", told_all(FIRST, log))):
            wanted = ["done", reply, "0" if told is None else "1", "-"
                      if told is None else own_told_text(FIRST, [told]), "no"]
            self.assertEqual(shell(FIRST_LOG + line + "\nholds 5\nthings 5\ntells 5"), wanted)
        for line, reply in (("show 0 0", "refused NoPlace"), ("rise 0 0", "refused Unfit"),
                            ("rise 0 1", "refused Unfit"),
                            ("all 0", "done")):
            self.assertEqual(shell(line), [reply])
        self.assertEqual(shell("all 0\nthings 0\nundo"), ["done", "all\nhead 0 0", "all"])

    def test_given_things(self):
        log = ("a", "b", "c")
        things = (told_entry(FIRST, log, 1), ("entry", (3, 7), 1, "b", (1, 2)), told_many(FIRST, log, (0, 2)))
        replies = shell(request("give 3", told_text(FIRST, things)) + "\nholds 3\nthings 3\nundo\nholds 3")
        self.assertEqual(replies, ["done", "2", own_told_text(FIRST, (things[0], things[2])), "give", "0"])
        for text, reply in (("", "done"), ("entry", "refused BadText"), ("\n", "refused BadText"),
                            ("all\nhead 0 0", "done")):
            last = "give" if reply == "done" else "refused CanNot"
            self.assertEqual(shell(request("give 0", text) + "\nundo"), [reply, last])

    def test_meetings_and_who_can_tell(self):
        text = ("sealer\n weak 2 0\nlog\n text a\nshow 1 0\nalter 0\n text c\nshow 2 0\nshow 3 0\ntellers\nmeet 4 4\n"
                "meet 4 1\ntellers\nmeet 4 2\nfirst\ntellers\ntells 4\ntells 2\ntells 1\nholds 4\n"
                "undo\nundo\ntellers\nfirst")
        self.assertEqual(shell(text), ["done"] * 6 + ["1 2 1 3", "refused Unfit", "done", "1 2 1 3 2 4 3 4", "done",
                                                      "4 2 4",
                                                      "1 3", "yes", "yes", "no", "2", "meet", "meet", "1 2 1 3", "-"])

    def test_undo(self):
        text = FIRST_LOG + ("show 0 1\nsize\nundo\nholds 0\nshow 0 0\nundo\nundo\nsize\nundo\nundo\n"
                            "log\n text a\nundo\nundo")
        self.assertEqual(shell(text), ["done", "done", "3", "show", "0", "done", "show", "log", "0", "refused CanNot",
                                       "refused CanNot", "done", "log", "refused CanNot"])
        deeds = ["log\n text a\n text b", "grow\n text c", "alter 0\n text z", "put 1\n text y", "turn 0 1", "show 0 1",
                 "rise 0 2", "all 1", "meet 0 1", "give 2\n all\n head 0 0", "drop 0", "cut 1", "sealer\n whole"]
        words = [re.match("[a-z]+", own).group() for own in deeds]
        for many in range(len(deeds) + 1):
            undone = "\n".join(deeds + ["undo"] * many + ["size", "all 9", "things 9", "holds 0", "holds 1", "holds 2"])
            straight = "\n".join(deeds[:len(deeds) - many] + ["size", "all 9", "things 9", "holds 0", "holds 1",
                                                              "holds 2"])
            replies = shell(undone)
            self.assertEqual(replies[:len(deeds)], ["done"] * len(deeds))
            self.assertEqual(replies[len(deeds):len(deeds) + many], words[::-1][:many])
            self.assertEqual(replies[-6:], shell(straight)[-6:])

    def test_drawn_requests(self):
        draw, seen = random.Random(13), {}
        for _ in range(150):
            own, lines, wanted = OwnShell(), [], []
            sealer = draw.choice(("weak 2 0", "weak 1000 0", "whole"))
            for at in range(30):
                line, text = ("sealer", sealer) if at == 0 else self.drawn(draw, own.now)
                lines.append(request(line, text))
                wanted.append(own.reply(line, text))
                key = line.split(" ")[0], wanted[-1].startswith("refused")
                seen[key] = seen.get(key, 0) + 1
            self.assertEqual(shell("\n".join(lines)), wanted)
        for word in FORMS:
            self.assertIn((word, False), seen)
        for word in ("sealer", "log", "grow", "alter", "put", "drop", "turn", "cut", "show", "rise", "give", "meet",
                     "head", "undo"):
            self.assertIn((word, True), seen)

    def drawn(self, draw, now):
        """A request and its text, mostly such that fit what is held."""
        sealer, log, _ = now
        word = draw.choice(list(FORMS) + ["grow", "show", "rise", "all", "give", "meet", "show", "tells", "undo"])
        places = [draw.randrange(len(log) + 2) if draw.random() < 0.4 else min(len(log), 1) for _ in range(2)]
        people = [draw.randrange(4), draw.randrange(4)]
        numbers = {"show": [people[0], places[0]], "rise": [people[0], places[0]], "meet": people, "turn": places,
                   "head": places, "alter": places, "put": places, "drop": places, "cut": [len(log)]}.get(word, people)
        if word == "cut" and draw.random() < 0.3:
            numbers = [len(log) + 1]
        texts = {"sealer": draw.choice(["sha", "weak 1 1"]) if draw.random() < 0.3 else " ".join(map(str, sealer)),
                 "log": own_log_text(draw.sample("abcd", 2)) + draw.choice(["", "", "\n"]),
                 "grow": own_log_text(draw.sample("abcd", 2)) + draw.choice(["", "", "\n"]),
                 "alter": draw.choice(["text a", "text c", "", "text"]),
                 "put": draw.choice(["text a", "text d", "", "text"]),
                 "give": told_text(sealer, chance_things(sealer, 3, 2, draw.randrange(40))) + draw.choice(["", "",
                                                                                                           "\nx"])}
        line = " ".join([word] + [str(own) for own in numbers[:FORMS[word]]])
        return line, texts.get(word)

    def test_lines_that_begin_no_request(self):
        for text, line in (("\n", 1), (" ", 1), (" size", 1), ("size\n", 2), ("size ", 1), ("size\n ", 1),
                           ("size\n x", 1),
                           ("log", 1), ("size\nlog", 2), ("log\n\nsize", 1), ("log\n \n\nsize", 3), ("Size", 1),
                           ("sizes", 1),
                           ("head", 1), ("head ", 1), ("head 1 2", 1), ("head  1", 1), ("head 01", 1), ("head -1", 1),
                           ("head +1", 1),
                           ("head 1000000", 1), ("head 0", None), ("head 00", 1), ("head x", 1), ("head \u0661", 1),
                           ("undo 1", 1),
                           ("log\n text a\nfoo\nbar", 3), ("log\n bad\nfoo", 3), ("size\nhead 9\ngive\n x", 3),
                           ("show 1", 1),
                           ("size\rsize", 1), ("size\u2028size", 1), ("alter 0", 1), ("alter\n text a", 1),
                           ("cut 0\n text a", 1),
                           ("meet 1 2 3", 1), ("first\n\n", 2), ("undo\nredo", 2), ("size\n\tx", 2), ("turn 1", 1),
                           ("all", 1)):
            if line is None:
                self.assertEqual(len(shell(text)), 1)
            else:
                self.refused(text, line)
                self.refused("first\n" + text, line + 1 if not text.startswith(" ") else 1)

    def test_numbers(self):
        self.assertEqual(shell("holds 999999\nhead 100000\nmeet 0 999999\ntells 999999"),
                         ["0", "refused Unfit", "done", "no"])
        for line in ("holds 1000000", "meet 0 1000000", "holds 0999999", "show 0 1234567"):
            self.refused("size\n" + line, 2)

    def test_texts(self):
        """One empty line is the empty text; two are a text with two empty lines."""
        self.assertEqual(shell("log\n \nsize"), ["done", "0"])
        self.assertEqual(shell("log\n \n \nsize"), ["refused BadText", "0"])
        self.assertEqual(shell("log\n text \nsize\nall 0\nthings 0"), ["done", "1", "done",
                                                                       own_told_text(FIRST, [told_all(FIRST, ("",))])])
        self.assertEqual(shell("log\n text  a \n text b\nall 0\nthings 0")[-1],
                         own_told_text(FIRST, [told_all(FIRST, (" a ", "b"))]))
        self.assertEqual(shell("log\n  text a\nsize"), ["refused BadText", "0"])
        self.assertEqual(shell("log\n text \u20ac\nsize"), ["refused BadText", "0"])

    def test_at_the_bounds(self):
        log = tuple("entry " + str(at) for at in range(300))
        for sealer in (("whole",), FIRST):
            things = [told_entry(sealer, log, at) for at in range(0, 300, 6)]
            text = "\n".join([request("sealer", sealer_text(sealer)), request("log", log_text(log)),
                              request("give 1", told_text(sealer, things)), "all 2", "rise 1 255", "meet 1 2",
                              "holds 1",
                              "tells 2", "things 1", "tellers", "drop 0", "show 3 0", "tellers"])
            replies = shell(text)
            self.assertEqual(replies[:8] + replies[9:], ["done"] * 6 + ["52", "no", "-", "done", "done", "1 3 2 3"])


class Requests(unittest.TestCase):

    def test_one_request_whatever_its_text(self):
        for word, many in FORMS.items():
            for numbers in ((), ("0",), ("12", "999999"), ("0", "1", "2"), ("01",), ("1000000",), ("0", "x"), ("",)):
                line = " ".join((word,) + numbers)
                for text in ("", "\n ", "\n x", "\n \u20ac\n \n  y", "\n", "\nsize", "\n x\n", "\n x\nsize", " "):
                    thing = line + text
                    check_thing(self, is_request, thing, request_form(thing))
                    self.assertIs(self.shell_takes(thing), is_request(thing) or thing == "log\n x\nsize"
                                  or self.two(thing))

    def two(self, thing):
        """Whether thing is two requests, the second one size."""
        return thing.endswith("\nsize") and is_request(thing[:-5])

    def shell_takes(self, text):
        try:
            shell(text)
        except BadText:
            return False
        return True

    def test_none_and_two(self):
        for thing in ("", " ", "\n", "size\nsize", "size\n", "\nsize", " size", "log\n a\nsize", "SIZE",
                      b"size"[:0].decode(), "size\r",
                      "head 1\u0661", "undo\nundo"):
            check_thing(self, is_request, thing, False)
        for thing in ("size", "log\n ", "log\n  \n ", "give 999999\n \x00\r", "sealer\n no sealer\n at all",
                      "turn 0 0"):
            check_thing(self, is_request, thing, True)

    def test_values_of_all_kinds(self):
        for thing in odd_values() + ["size", ("size",), ["size"], "head 1"]:
            check_thing(self, is_request, thing, request_form(thing))

    def test_error_classes_are_named_as_they_are(self):
        replies = shell("undo\nshow 0 0\nrise 0 0\nlog\n x")
        self.assertEqual([own.split(" ")[0] for own in replies], ["refused"] * 4)
        self.assertEqual([getattr(errors, own.split(" ")[1]).__name__ for own in replies],
                         ["CanNot", "NoPlace", "Unfit", "BadText"])


if __name__ == "__main__":
    unittest.main()
