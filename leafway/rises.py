"""Rises: the few seals that show that an elder head is one of the same log."""

from leafway.errors import CanNot, Unfit
from leafway.nodes import halves_by, seal_from
from leafway.plain import begins, tupled
from leafway.roots import is_head, seal_of_stretch
from leafway.seals import is_seals, sealed
from leafway.ways import way_length


def rise_stretches(old, size):
    """Return the stretches of a rise: the last one, if it does not begin at 0, and those aside, from it up."""
    _check_sizes(old, size)
    last, aside = _edge(old, size)
    return aside if last[0] == 0 else (last, *aside)


def rise_length(old, size):
    """Return how many stretches a rise has."""
    _check_sizes(old, size)
    if old == size:
        return 0
    # The last node has as many places as the greatest power of 2 that divides old. Above it, those aside are the
    # neighbours of its last place.
    zeros = (old & -old).bit_length() - 1
    begin = old - (1 << zeros)
    return way_length(size, old - 1) - zeros + (1 if begin > 0 else 0)


def rise(sealer, log, old, size):
    """Return the rise of old and size in log."""
    parts = rise_stretches(old, size)
    if len(log) < size:
        raise Unfit()
    return tuple([seal_of_stretch(sealer, log, own) for own in parts])


def roots_by_rise(sealer, old, size, way):
    """Return the pair of the elder and the newer root that come of old and way."""
    early, top = tupled(old)
    if len(way) != rise_length(early, size):
        raise Unfit()
    last, aside = _edge(early, size)
    seals = tupled(way) if last[0] > 0 else (top, *tupled(way))
    elder, newer = seals[0], seals[0]
    for stretch, seal in zip(aside, seals[1:]):
        if stretch[0] < early:
            elder = sealed(sealer, ("node", seal, elder))
            newer = sealed(sealer, ("node", seal, newer))
        else:
            newer = sealed(sealer, ("node", newer, seal))
    return elder, newer


def is_rise(sealer, thing):
    """Tell whether thing is a told thing ("rise", ..) that is taken."""
    if not begins(thing, "rise", 4):
        return False
    _, old, head, seals = thing
    if not is_head(sealer, old) or not is_head(sealer, head) or not is_seals(sealer, seals):
        return False
    if not 1 <= old[0] <= head[0] or len(seals) != rise_length(old[0], head[0]):
        return False
    return roots_by_rise(sealer, old, head[0], seals) == (old[1], head[1])


def joined(sealer, near, far):
    """Return the rise from near's old head to far's head that comes of both."""
    first, second = tupled(near), tupled(far)
    if not is_rise(sealer, first) or not is_rise(sealer, second) or first[2] != second[1]:
        raise Unfit()
    seals = _seals_told(first)
    seals.update(_seals_told(second))
    old, head = first[1], second[2]
    told = ("rise", old, head, tuple([seal_from(sealer, seals, own) for own in rise_stretches(old[0], head[0])]))
    if not is_rise(sealer, told):
        raise CanNot()
    return told


def _check_sizes(old, size):
    """Raise Unfit() unless old is from 1 and at most size."""
    if not 1 <= old <= size:
        raise Unfit()


def _edge(old, size):
    """Return the last node on the edge of old in size, and those that stay aside, from it up."""
    node, aside = (0, size), []
    while node[1] != old:
        # As long as old is within the node and not its end, the half with the place ahead of old is gone on in.
        node, other = halves_by(node, old - 1)
        aside.append(other)
    return node, tuple(aside[::-1])


def _seals_told(told):
    """Return the seals on the way of a rise, each by its stretch."""
    _, old, head, seals = told
    return dict(zip(rise_stretches(old[0], head[0]), seals))
