"""Own reckonings of texts [14] and files [13], by regular expressions and straight from the document's words."""

import re

from tests.reckoning import own_root

NUMBER = r"(0|[1-9][0-9]{0,39})"
ENTRY = r"([ -~]{0,200})"


class Bad(Exception):
    """A text that nothing has, with its first wrong line."""

    def __init__(self, line):
        super().__init__(line)
        self.line = line


def own_seal_text(sealer, seal):
    if sealer[0] == "sha":
        return seal
    if sealer[0] == "weak":
        return str(seal)
    if seal[0] == "none":
        return "0"
    if seal[0] == "leaf":
        return "L" + str(len(seal[1])) + ":" + seal[1]
    return "N" + own_seal_text(sealer, seal[1]) + own_seal_text(sealer, seal[2])


def own_seal_read(sealer, text):
    """The seal with this text; None if there is none."""
    if sealer[0] == "sha":
        return text if re.fullmatch("[0-9a-f]{64}", text) else None
    if sealer[0] == "weak":
        return int(text) if re.fullmatch(NUMBER, text) and int(text) < sealer[1] else None
    found = whole_from(text, 200)
    return found[0] if found is not None and found[1] == "" else None


def whole_from(text, nodes):
    """The seal with which text begins, of at most so many nodes within one another, and the rest; None without."""
    if text[:1] == "0":
        return ("none",), text[1:]
    found = re.match(r"L(0|[1-9][0-9]{0,2}):", text)
    if found:
        rest, many = text[found.end():], int(found.group(1))
        return (("leaf", rest[:many]), rest[many:]) if re.fullmatch("[ -~]{%d}" % many,
                                                                    rest[:many]) and many <= 200 else None
    if text[:1] != "N" or nodes == 0:
        return None
    left = whole_from(text[1:], nodes - 1)
    right = None if left is None else whole_from(left[1], nodes - 1)
    return None if right is None else (("node", left[0], right[0]), right[1])


def own_lines(text):
    return text.split("\n") if text != "" else []


def own_head_text(sealer, head, word="head"):
    return " ".join([word, str(head[0]), own_seal_text(sealer, head[1])])


def own_log_text(log):
    return "\n".join("text " + entry for entry in log)


def own_told_text(sealer, things):
    lines = []
    for told in things:
        lines.append(told[0])
        if told[0] == "rise":
            lines.append(own_head_text(sealer, told[1], "old"))
            lines.append(own_head_text(sealer, told[2]))
        else:
            lines.append(own_head_text(sealer, told[1]))
        entries = {"entry": [told[2:4]], "many": told[2]}.get(told[0], [])
        lines += ["at " + str(place) + " " + entry for place, entry in entries]
        if told[0] == "all":
            lines += ["text " + entry for entry in told[2]]
        else:
            lines += ["seal " + own_seal_text(sealer, seal) for seal in told[-1]]
    return "\n".join(lines)


def own_known_text(sealer, known):
    lines = ["known", own_head_text(sealer, known[0])]
    lines += ["span " + str(b) + " " + str(e) + " " + own_seal_text(sealer, seal) for (b, e), seal in known[1]]
    return "\n".join(lines + ["at " + str(place) + " " + entry for place, entry in known[2]])


class Rows:
    """The lines of a text; each may be asked whether it is of a form, and is then gone on from."""

    def __init__(self, sealer, text):
        self.sealer = sealer
        self.lines = own_lines(text)
        self.at = 0

    def more(self):
        return self.at < len(self.lines)

    def next_is(self, word):
        return self.more() and self.lines[self.at].split(" ")[0] == word

    def must(self, form, fits=lambda *parts: True):
        """Go on behind a line of this form, that fits; its parts, S standing for a seal, N and E for what they are."""
        if not self.more():
            raise Bad(self.at + 1)
        pattern = re.escape(form).replace("<N>", NUMBER).replace("<E>", ENTRY).replace("<S>", "(.*)")
        found = re.fullmatch(pattern, self.lines[self.at], re.DOTALL)
        if not found:
            raise Bad(self.at + 1)
        kinds = re.findall("<([NES])>", form)
        parts = [{"N": int, "E": str, "S": lambda own: own_seal_read(self.sealer, own)}[kind](own)
                 for kind, own in zip(kinds, found.groups())]
        if None in parts or not fits(*parts):
            raise Bad(self.at + 1)
        self.at += 1
        return tuple(parts)


def own_told_read(sealer, text):
    rows, found = Rows(sealer, text), []
    while rows.more():
        found.append(one_told(rows))
    return tuple(found)


def one_told(rows):
    for word in ("entry", "rise", "many", "all"):
        if rows.lines[rows.at] == word:
            break
    rows.must(word)
    if word == "rise":
        old = rows.must("old <N> <S>", lambda size, _: size > 0)
        head = rows.must("head <N> <S>", lambda size, _: size >= old[0])
        return word, old, head, seals_read(rows)
    head = rows.must("head <N> <S>")
    if word == "all":
        log = []
        while len(log) < head[0]:
            log += rows.must("text <E>")
        return word, head, tuple(log)
    entries = [rows.must("at <N> <E>", lambda place, _: place < head[0])]
    if word == "entry":
        return word, head, *entries[0], seals_read(rows)
    entries += entries_read(rows, head[0], entries[0][0])
    return word, head, tuple(entries), seals_read(rows)


def entries_read(rows, size, before):
    found = []
    while rows.next_is("at"):
        found.append(rows.must("at <N> <E>", lambda place, _: before < place < size))
        before = found[-1][0]
    return found


def seals_read(rows):
    found = []
    while rows.next_is("seal"):
        found += rows.must("seal <S>")
    return tuple(found)


def own_known_read(sealer, text):
    rows = Rows(sealer, text)
    rows.must("known")
    head, seals, before = rows.must("head <N> <S>"), [], (-1, -1)
    while rows.next_is("span"):
        begin, end, seal = rows.must("span <N> <N> <S>", lambda b, e, _: b < e <= head[0] and (b, e) > before)
        before = (begin, end)
        seals.append((before, seal))
    entries = entries_read(rows, head[0], -1)
    if rows.more():
        raise Bad(rows.at + 1)
    return head, tuple(seals), tuple(entries)


def own_head_read(sealer, text):
    rows = Rows(sealer, text)
    head = rows.must("head <N> <S>")
    if rows.more():
        raise Bad(2)
    return head


def own_log_read(text):
    rows, log = Rows(("whole",), text), []
    while rows.more():
        log += rows.must("text <E>")
    return tuple(log)


def own_sealer_read(text):
    lines = own_lines(text)
    found = re.fullmatch("sha|whole|weak " + NUMBER + " " + NUMBER, lines[0]) if lines else None
    if not found or (found.group(1) and int(found.group(1)) < 2):
        raise Bad(1)
    if len(lines) > 1:
        raise Bad(2)
    return ("weak", int(found.group(1)), int(found.group(2))) if found.group(1) else (lines[0],)


def own_rows(sealer, log):
    """The rows of the file of log [13]."""
    return [str(len(entry)) + " " + entry + " " + own_seal_text(sealer, own_root(sealer, log[:at + 1])) + "\n"
            for at, entry in enumerate(log)]


def own_begun(sealer, text):
    """The log of the longest file with which text begins, row by row; each row is found by trying what it could be."""
    log, rest = (), text
    while True:
        found = re.match(r"([0-9]+) ", rest)
        many = int(found.group(1)) if found and len(found.group(1)) < 5 else 0
        entry = rest[found.end():found.end() + many] if found else ""
        longer = log + (entry,)
        if not found or not re.fullmatch("[ -~]{0,200}", entry) or not rest.startswith(own_rows(sealer, longer)[-1]):
            return log
        rest = rest[len(own_rows(sealer, longer)[-1]):]
        log = longer


def bent_texts(text, signs):
    """Texts like text with one sign changed, left out or put in, or one line left out, doubled, put in, exchanged."""
    found = []
    for at in range(len(text) + 1):
        found += [text[:at] + sign + text[at:] for sign in signs]
        if at < len(text):
            found += [text[:at] + sign + text[at + 1:] for sign in signs] + [text[:at] + text[at + 1:]]
    lines = own_lines(text)
    for at, line in enumerate(lines):
        ahead, behind = lines[:at], lines[at + 1:]
        bent = [ahead + behind, ahead + [line, line] + behind, ahead + [""] + lines[at:]]
        bent += [ahead + [other] + behind for other in lines] + [ahead + [other] + lines[at:] for other in lines]
        found += ["\n".join(own) for own in bent] + ["\n".join(lines[:at] + behind[:1] + [line] + behind[1:])]
    return found + [text + "\n", "\n" + text, text + text, text + "\n" + text]
