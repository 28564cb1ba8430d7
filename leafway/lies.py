"""Lies: what is done to a log behind its heads, and the papers that tell of it."""

from leafway.errors import CanNot, NoPlace, Unfit
from leafway.nodes import halves
from leafway.plain import begins, is_number_from, is_pair, tupled
from leafway.roots import has_head, heads_along, seal_of_stretch
from leafway.seals import is_entry
from leafway.telling import entry_told
from leafway.ways import clash_of, is_shown, way


def is_change(thing):
    """Tell whether thing is a change."""
    if begins(thing, "alter", 3) or begins(thing, "put", 3):
        return is_number_from(0, thing[1]) and is_entry(thing[2])
    if begins(thing, "turn", 3):
        return is_number_from(0, thing[1]) and is_number_from(0, thing[2])
    return (begins(thing, "drop", 2) or begins(thing, "cut", 2)) and is_number_from(0, thing[1])


def changed(log, change):
    """Return the log that comes of log by change."""
    wrong = wrong_number(log, change)
    if wrong is not None:
        raise NoPlace(wrong)
    entries, word, at = list(log), change[0], change[1]
    if word == "alter":
        entries[at] = change[2]
    elif word == "drop":
        del entries[at]
    elif word == "turn":
        entries[at], entries[change[2]] = entries[change[2]], entries[at]
    elif word == "cut":
        del entries[at:]
    else:
        entries.insert(at, change[2])
    return tuple(entries)


def first_place(log, other):
    """Return the least place at which both have unlike entries, or just one has one; None without."""
    for place, (one, two) in enumerate(zip(log, other)):
        if one != two:
            return place
    return None if len(log) == len(other) else min(len(log), len(other))


def first_head(sealer, log, other):
    """Return the least size, at most both's, of unlike heads; None without."""
    for one, two in zip(heads_along(sealer, log), heads_along(sealer, other)):
        if one != two:
            return one[0]
    return None


def keeps(sealer, heads, log):
    """Tell of each of heads whether log has it."""
    own = heads_along(sealer, log)
    return tuple([head[0] < len(own) and own[head[0]] == head for head in tupled(heads)])


def missed(sealer, log, change, sizes):
    """Tell whether log changed has all heads of log of sizes."""
    later = changed(log, change)
    if not all(size <= len(log) for size in sizes):
        raise Unfit()
    return lost_size(sealer, log, later, sizes) is None


def search(sealer, log, other):
    """Return the stretches that are compared to find where both are unlike, and the place found."""
    size = min(len(log), len(other))
    if size == 0:
        return (), None
    compared, node = [(0, size)], (0, size)
    if not _are_unlike(sealer, log, other, node):
        return tuple(compared), None
    while node[1] - node[0] > 1:
        left, right = halves(node)
        compared.append(left)
        node = left if _are_unlike(sealer, log, other, left) else right
    return tuple(compared), node[0]


def is_lie_paper(sealer, thing):
    """Tell whether thing is a pair of taken things with unlike entries at one place."""
    if not is_pair(thing) or not is_shown(sealer, thing[0]) or not is_shown(sealer, thing[1]):
        return False
    return thing[0][2] == thing[1][2] and thing[0][3] != thing[1][3]


def lie_paper(sealer, log, other):
    """Return what both show of their first unlike place, under their heads."""
    place = first_place(log, other)
    if place is None or place >= min(len(log), len(other)):
        raise CanNot()
    return entry_told(sealer, log, place), entry_told(sealer, other, place)


def lie_clash(sealer, paper, log):
    """Return the clash that is told by paper and a log that has both of its heads."""
    things = tupled(paper)
    if not is_lie_paper(sealer, things) or not all(has_head(sealer, log, told[1]) for told in things):
        raise Unfit()
    place = things[0][2]
    _, head, _, entry, seals = things[1] if things[0][3] == log[place] else things[0]
    return clash_of(sealer, head, place, (entry, seals), (log[place], way(sealer, log, head[0], place)))


def wrong_number(log, change):
    """Return the first number of change that is no place of log, nor its size where that may stand; None without."""
    end = len(log) + 1 if change[0] in ("cut", "put") else len(log)
    numbers = change[1:] if change[0] == "turn" else change[1:2]
    for number in numbers:
        if number >= end:
            return number
    return None


def lost_size(sealer, log, later, sizes):
    """Return the first of sizes of which later has not got the head of log; None without."""
    heads, later_heads = heads_along(sealer, log), heads_along(sealer, later)
    for size in sizes:
        if size >= len(later_heads) or heads[size] != later_heads[size]:
            return size
    return None


def _are_unlike(sealer, log, other, stretch):
    """Tell whether stretch has unlike seals in both."""
    return seal_of_stretch(sealer, log, stretch) != seal_of_stretch(sealer, other, stretch)
