"""Texts: sealers, seals, heads, logs, told things and known logs, written and read."""

from leafway.errors import BadText
from leafway.lines import Lines
from leafway.plain import number_in
from leafway.seals import is_entry, is_seal

# Numbers have at most so many figures.
_FIGURES = 40

# Seals that are read have at most so many nodes within one another.
_NODES = 200


def sealer_text(sealer):
    """Return the text of sealer."""
    return " ".join([str(own) for own in sealer])


def seal_text(sealer, seal):
    """Return the text of seal."""
    if sealer[0] == "sha":
        return seal
    if sealer[0] == "weak":
        return str(seal)
    parts, waiting = [], [seal]
    while waiting:
        part = waiting.pop()
        if part[0] == "node":
            parts.append("N")
            waiting.extend([part[2], part[1]])
        else:
            parts.append("0" if part[0] == "none" else f"L{len(part[1])}:{part[1]}")
    return "".join(parts)


def head_text(sealer, head):
    """Return the text of head."""
    return _head_line(sealer, "head", head)


def log_text(log):
    """Return the text of log."""
    return "\n".join(_log_lines(log))


def told_text(sealer, things):
    """Return the text of things."""
    return "\n".join([line for told in things for line in _told_lines(sealer, told)])


def known_text(sealer, known):
    """Return the text of known."""
    head, seals, entries = known
    spans = [f"span {begin} {end} {seal_text(sealer, seal)}" for (begin, end), seal in seals]
    return "\n".join(["known", _head_line(sealer, "head", head), *spans, *_at_lines(entries)])


def sealer_read(text):
    """Return the sealer with this text."""
    lines = Lines(text)
    words = lines.row().split(" ")
    numbers = [number_in(own, _FIGURES) for own in words[1:]]
    if words == ["sha"] or words == ["whole"]:
        sealer = (words[0],)
    elif words[0] == "weak" and len(words) == 3 and None not in numbers and numbers[0] >= 2:
        sealer = ("weak", numbers[0], numbers[1])
    else:
        raise BadText(1)
    lines.step()
    lines.check_end()
    return sealer


def seal_read(sealer, text):
    """Return the seal with this text."""
    seal = _seal_in(sealer, text)
    if seal is None:
        raise BadText(1)
    return seal


def head_read(sealer, text):
    """Return the head with this text."""
    lines = Lines(text)
    head = _head_from(sealer, lines, "head", 0)
    lines.check_end()
    return head


def log_read(text):
    """Return the log with this text."""
    lines, log = Lines(text), []
    while lines.has_more():
        log.append(_entry_from(lines))
    return tuple(log)


def told_read(sealer, text):
    """Return the told things with this text."""
    lines, things = Lines(text), []
    while lines.has_more():
        word = lines.row()
        if word not in _PARTS:
            raise BadText(lines.number())
        lines.step()
        read_parts = _PARTS[word]
        parts = read_parts(sealer, lines)
        things.append((word, *parts))
    return tuple(things)


def known_read(sealer, text):
    """Return the known log with this text."""
    lines = Lines(text)
    if lines.row() != "known":
        raise BadText(1)
    lines.step()
    head = _head_from(sealer, lines, "head", 0)
    seals, before = [], (-1, 0)
    while lines.begins("span"):
        seals.append(_span_from(sealer, lines, before, head[0]))
        before = seals[-1][0]
    entries = _entries_from(lines, 0, head[0])
    lines.check_end()
    return head, tuple(seals), entries


def _head_line(sealer, word, head):
    """Return the line of head that begins with word."""
    return f"{word} {head[0]} {seal_text(sealer, head[1])}"


def _log_lines(log):
    """Return the lines of log."""
    return [f"text {entry}" for entry in log]


def _at_lines(entries):
    """Return the lines of pairs (place, entry)."""
    return [f"at {place} {entry}" for place, entry in entries]


def _told_lines(sealer, told):
    """Return the lines of a told thing."""
    word = told[0]
    if word == "rise":
        lines = [word, _head_line(sealer, "old", told[1]), _head_line(sealer, "head", told[2])]
    else:
        lines = [word, _head_line(sealer, "head", told[1])]
    if word == "all":
        return lines + _log_lines(told[2])
    if word == "entry":
        lines = lines + _at_lines([told[2:4]])
    if word == "many":
        lines = lines + _at_lines(told[2])
    return lines + [f"seal {seal_text(sealer, seal)}" for seal in told[-1]]


def _entry_parts(sealer, lines):
    """Return what stands behind the word in a told thing ("entry", ..)."""
    head = _head_from(sealer, lines, "head", 0)
    place, entry = _at_from(lines, 0, head[0])
    seals = _seals_from(sealer, lines)
    return head, place, entry, seals


def _rise_parts(sealer, lines):
    """Return what stands behind the word in a told thing ("rise", ..)."""
    old = _head_from(sealer, lines, "old", 1)
    head = _head_from(sealer, lines, "head", old[0])
    seals = _seals_from(sealer, lines)
    return old, head, seals


def _many_parts(sealer, lines):
    """Return what stands behind the word in a told thing ("many", ..)."""
    head = _head_from(sealer, lines, "head", 0)
    first = _at_from(lines, 0, head[0])
    others = _entries_from(lines, first[0] + 1, head[0])
    seals = _seals_from(sealer, lines)
    return head, (first, *others), seals


def _all_parts(sealer, lines):
    """Return what stands behind the word in a told thing ("all", ..)."""
    head = _head_from(sealer, lines, "head", 0)
    log = []
    while len(log) < head[0]:
        log.append(_entry_from(lines))
    return head, tuple(log)


_PARTS = {"entry": _entry_parts, "rise": _rise_parts, "many": _many_parts, "all": _all_parts}


def _head_from(sealer, lines, word, least):
    """Read the line of a head that begins with word, of a size that is not below least."""
    figures, seal_part = lines.two_behind(word)
    size, top = number_in(figures, _FIGURES), _seal_in(sealer, seal_part)
    if size is None or size < least or top is None:
        raise BadText(lines.number())
    lines.step()
    return size, top


def _at_from(lines, least, size):
    """Read a pair (place, entry), place not below least and below size."""
    figures, entry = lines.two_behind("at")
    place = number_in(figures, _FIGURES)
    if place is None or not least <= place < size or not is_entry(entry):
        raise BadText(lines.number())
    lines.step()
    return place, entry


def _entries_from(lines, least, size):
    """Read pairs (place, entry), maybe none, places ascending, not below least and below size."""
    entries, next_place = [], least
    while lines.begins("at"):
        entries.append(_at_from(lines, next_place, size))
        next_place = entries[-1][0] + 1
    return tuple(entries)


def _span_from(sealer, lines, before, size):
    """Read a pair (stretch, seal), the stretch above the one before and within size."""
    figures, rest = lines.two_behind("span")
    more_figures, _, seal_part = rest.partition(" ")
    begin, end = number_in(figures, _FIGURES), number_in(more_figures, _FIGURES)
    seal = _seal_in(sealer, seal_part)
    if begin is None or end is None or seal is None or not begin < end <= size or not before < (begin, end):
        raise BadText(lines.number())
    lines.step()
    return (begin, end), seal


def _seals_from(sealer, lines):
    """Read the seals of a way, maybe none."""
    seals = []
    while lines.begins("seal"):
        seal = _seal_in(sealer, lines.behind("seal"))
        if seal is None:
            raise BadText(lines.number())
        lines.step()
        seals.append(seal)
    return tuple(seals)


def _entry_from(lines):
    """Read one entry of a log."""
    entry = lines.behind("text")
    if not is_entry(entry):
        raise BadText(lines.number())
    lines.step()
    return entry


def _seal_in(sealer, text):
    """Return the seal with this text; None if there is none."""
    if sealer[0] == "whole":
        return _whole_seal_in(text)
    seal = text if sealer[0] == "sha" else number_in(text, _FIGURES)
    return seal if is_seal(sealer, seal) else None


def _whole_seal_in(text):
    """Return the seal by ("whole",) with this text; None if there is none."""
    # For each node that is open its left half, None as long as that is not read.
    opened, at = [], 0
    while True:
        if text[at:at + 1] == "N":
            if len(opened) == _NODES:
                return None
            opened.append(None)
            at = at + 1
            continue
        part, at = _end_in(text, at)
        while part is not None and opened and opened[-1] is not None:
            part = ("node", opened.pop(), part)
        if part is None or not opened:
            return part if at == len(text) else None
        opened[-1] = part


def _end_in(text, at):
    """Return the seal without halves that is written from at on, None if there is none, and the place behind it."""
    if text[at:at + 1] == "0":
        return ("none",), at + 1
    colon = text.find(":", at)
    many = number_in(text[at + 1:colon], _FIGURES) if text[at:at + 1] == "L" and colon > at else None
    if many is None:
        return None, at
    entry = text[colon + 1:colon + 1 + many]
    if len(entry) != many or not is_entry(entry):
        return None, at
    return ("leaf", entry), colon + 1 + many
