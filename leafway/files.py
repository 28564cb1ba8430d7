"""Files: a log written row by row, each row with the root of all entries up to it."""

from leafway.errors import BadText
from leafway.plain import number_in
from leafway.roots import grown, head_by, heads_along, head_of
from leafway.seals import is_entry
from leafway.texts import seal_text


def file_text(sealer, log):
    """Return the file of log."""
    return "".join(_rows(sealer, log))


def read_file(sealer, text):
    """Return the log with this file."""
    log, _, many = _begun(sealer, text)
    if many < len(text):
        raise BadText(len(log) + 1)
    return log


def rows_in(sealer, text):
    """Return how many rows the longest file has with which text begins."""
    log, _, _ = _begun(sealer, text)
    return len(log)


def mended(sealer, text):
    """Return the longest file with which text begins."""
    _, _, many = _begun(sealer, text)
    return text[:many]


def row_heads(sealer, text):
    """Return the heads that the rows of the longest file tell with which text begins."""
    _, heads, _ = _begun(sealer, text)
    return heads


def grown_file(sealer, text, entry):
    """Return the file of the log with this file and entry more at its end."""
    log = read_file(sealer, text)
    return text + _row(sealer, entry, head_of(sealer, (*log, entry)))


def left_of(sealer, log, many):
    """Return how many rows of the file of log lie whole in its first many signs."""
    rows, left = 0, many
    for row in _rows(sealer, log):
        left = left - len(row)
        if left < 0:
            return rows
        rows = rows + 1
    return rows


def _row(sealer, entry, head):
    """Return the row of entry, head the one of all entries up to it."""
    return f"{len(entry)} {entry} {seal_text(sealer, head[1])}\n"


def _rows(sealer, log):
    """Return the rows of the file of log."""
    return [_row(sealer, entry, head) for entry, head in zip(log, heads_along(sealer, log)[1:])]


def _begun(sealer, text):
    """Return the log of the longest file with which text begins, the heads of its rows and how many signs it has."""
    log, heads, begin, tops = [], [], 0, (0, ())
    while True:
        end = text.find("\n", begin) + 1
        entry = _entry_in(text[begin:end])
        if entry is None:
            return tuple(log), heads, begin
        tops = grown(sealer, tops, entry)
        head = head_by(sealer, tops)
        if text[begin:end] != _row(sealer, entry, head):
            return tuple(log), heads, begin
        log.append(entry)
        heads.append(head)
        begin = end


def _entry_in(line):
    """Return the entry in what may be a row; None if it is none."""
    figures, _, rest = line.partition(" ")
    many = number_in(figures, 3)
    if many is None or not is_entry(rest[:many]):
        return None
    return rest[:many]
