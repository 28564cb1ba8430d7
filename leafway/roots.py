"""Roots, heads, and tops: the few seals that tell all heads to come."""

from leafway.errors import NoPlace, Unfit
from leafway.plain import is_number_from, is_pair, tupled
from leafway.seals import is_seal, is_seals, sealed


def crown(size):
    """Return the greatest power of 2 that is below size."""
    if size < 2:
        raise Unfit()
    return 1 << ((size - 1).bit_length() - 1)


def root(sealer, log):
    """Return the root of log."""
    return head_of(sealer, log)[1]


def head_of(sealer, log):
    """Return the head of log: its size and its root."""
    return _head(sealer, tops_of(sealer, log))


def heads_along(sealer, log):
    """Return the heads of the first 0, 1, .. entries, that of log last."""
    tops = (0, ())
    heads = [_head(sealer, tops)]
    for entry in log:
        tops = _longer(sealer, tops, entry)
        heads.append(_head(sealer, tops))
    return heads


def is_head(sealer, thing):
    """Tell whether thing is a head, of whatever log or none."""
    return is_pair(thing) and is_number_from(0, thing[0]) and is_seal(sealer, thing[1])


def has_head(sealer, log, head):
    """Tell whether head is that of the first so many entries of log."""
    size, top = head
    return size <= len(log) and root(sealer, log[:size]) == top


def stretches(size):
    """Return the stretches side by side from 0 to size, each as great a power of 2 as is left."""
    found, begin = [], 0
    while begin < size:
        end = begin + (1 << ((size - begin).bit_length() - 1))
        found.append((begin, end))
        begin = end
    return tuple(found)


def seal_of_stretch(sealer, log, stretch):
    """Return the seal of stretch in log."""
    begin, end = stretch
    if end > len(log):
        raise NoPlace(end - 1)
    return root(sealer, log[begin:end])


def tops_of(sealer, log):
    """Return the tops of log: its size and the seals of the stretches of this size."""
    tops = (0, ())
    for entry in log:
        tops = _longer(sealer, tops, entry)
    return tops


def is_tops(sealer, thing):
    """Tell whether thing is tops, of whatever log or none."""
    if not is_pair(thing):
        return False
    size, seals = thing
    return is_number_from(0, size) and is_seals(sealer, seals) and len(seals) == ones(size)


def grown(sealer, tops, entry):
    """Return the tops of the log with these tops and entry more at its end."""
    return _longer(sealer, tupled(tops), entry)


def head_by(sealer, tops):
    """Return the head of the log with these tops."""
    return _head(sealer, tupled(tops))


def ones(size):
    """Return how many 1s there are in size written by twos."""
    return f"{size:b}".count("1")


def _longer(sealer, tops, entry):
    """Return tops, which have no lists in them, with entry more."""
    size, seals = tops
    last = sealed(sealer, ("leaf", entry))
    left = size
    # Each 1 at the end of size stands for a last stretch of as many places as the one that comes behind it.
    while left & 1:
        last = sealed(sealer, ("node", seals[-1], last))
        seals = seals[:-1]
        left = left >> 1
    return size + 1, (*seals, last)


def _head(sealer, tops):
    """Return the head by tops that have no lists in them."""
    size, seals = tops
    if not seals:
        return size, sealed(sealer, ("none",))
    top = seals[-1]
    for seal in seals[-2::-1]:
        top = sealed(sealer, ("node", seal, top))
    return size, top
