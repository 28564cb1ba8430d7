"""The nodes of a size: stretches that are halves of one another, and the seals that come of their halves."""

from leafway.errors import NoPlace
from leafway.roots import crown, stretches
from leafway.seals import sealed


def check_place(size, place):
    """Raise NoPlace(place) unless place is one from 0 below size."""
    if not 0 <= place < size:
        raise NoPlace(place)


def halves(node):
    """Return both halves of a node of two places or more."""
    begin, end = node
    middle = begin + crown(end - begin)
    return (begin, middle), (middle, end)


def halves_by(node, place):
    """Return the half of node that holds place, a place of it, and then the other half."""
    left, right = halves(node)
    if place < left[1]:
        return left, right
    return right, left


def is_node_of(size, stretch):
    """Tell whether stretch is one of the nodes of size."""
    begin, end = stretch
    many = end - begin
    # Nodes begin at a multiple of the least power of 2 that is not below their length; only those at the end of
    # size may have another number of places than that.
    power = 1 << (many - 1).bit_length()
    return begin % power == 0 and (end == size or (end < size and many == power))


def even_parts(size):
    """Return pairs (place, many): each so many places from there on have ways of one length."""
    return [(begin, end - begin) for begin, end in stretches(size)]


def seal_from(sealer, seals, node):
    """Return the seal of node that is in the dict seals, or comes of those of its halves; seals keeps what came."""
    # A list of what is still to do instead of recursion: nodes may lie deeply within one another.
    waiting, found = [(node, False)], []
    while waiting:
        own, has_halves = waiting.pop()
        if has_halves:
            right = found.pop()
            left = found.pop()
            seals[own] = sealed(sealer, ("node", left, right))
            found.append(seals[own])
        elif own in seals:
            found.append(seals[own])
        else:
            left_half, right_half = halves(own)
            waiting.extend([(own, True), (right_half, False), (left_half, False)])
    return found[0]
