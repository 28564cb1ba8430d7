"""Ways: the few seals that show the entry at one place."""

from leafway.errors import CanNot, Unfit
from leafway.nodes import check_place, even_parts, halves_by, is_node_of
from leafway.plain import begins, is_number_from, tupled
from leafway.roots import is_head, ones, seal_of_stretch
from leafway.seals import is_entry, is_seals, sealed


def nodes_above(size, place):
    """Return the nodes of size that hold place, from the entry up."""
    check_place(size, place)
    nodes = [(0, size)]
    while nodes[-1] != (place, place + 1):
        nodes.append(halves_by(nodes[-1], place)[0])
    return tuple(nodes[::-1])


def neighbours(size, place):
    """Return the neighbours of the nodes above place, from the entry up."""
    return tuple([halves_by(node, place)[1] for node in nodes_above(size, place)[1:]])


def way_length(size, place):
    """Return how many neighbours there are."""
    check_place(size, place)
    # By twos, the first figure in which both differ tells the stretch of size [6] in which place lies: a node with
    # 2^height places, which has all stretches ahead as neighbours, one by one, and all behind it as one.
    height = (size ^ place).bit_length() - 1
    ahead = ones(size >> (height + 1))
    behind = size & ((1 << height) - 1)
    return height + ahead + (1 if behind > 0 else 0)


def lengths(size):
    """Return the pairs (length, how many places have ways of it), ascending."""
    table = {}
    for begin, places in even_parts(size):
        length = way_length(size, begin)
        table[length] = table.get(length, 0) + places
    return tuple(sorted(table.items()))


def shortest(size):
    """Return the least length of a way and the least place that has it."""
    return min([(way_length(size, begin), begin) for begin, _ in even_parts(size)])


def way(sealer, log, size, place):
    """Return the way of place in the first size entries of log."""
    check_place(size, place)
    if len(log) < size:
        raise Unfit()
    return tuple([seal_of_stretch(sealer, log, own) for own in neighbours(size, place)])


def root_by(sealer, size, place, entry, way):
    """Return the root that comes of entry at place and way."""
    check_place(size, place)
    if len(way) != way_length(size, place):
        raise Unfit()
    return sealed(sealer, _matters_above(sealer, size, place, entry, tupled(way))[-1])


def is_way(sealer, head, place, entry, thing):
    """Tell whether entry is taken at place by thing, under head."""
    check_place(head[0], place)
    return is_seals(sealer, thing) and _takes(sealer, tupled(head), place, entry, thing)


def is_shown(sealer, thing):
    """Tell whether thing is a told thing ("entry", ..) that is taken."""
    if not begins(thing, "entry", 5):
        return False
    _, head, place, entry, seals = thing
    if not is_head(sealer, head) or not is_number_from(0, place) or place >= head[0]:
        return False
    return is_entry(entry) and is_way(sealer, head, place, entry, seals)


def clash_of(sealer, head, place, one, other):
    """Return the first unlike matters, from the root down, of two pairs (entry, way); None if both are one."""
    size, top = tupled(head)
    check_place(size, place)
    sides = []
    for entry, seals in (tupled(one), tupled(other)):
        if not _takes(sealer, (size, top), place, entry, seals):
            raise Unfit()
        sides.append(_matters_above(sealer, size, place, entry, seals)[::-1])
    for first, second in zip(sides[0], sides[1]):
        if first != second:
            return first, second
    return None


def stays(size, bigger, place):
    """Return how many first neighbours of place are the same in both sizes."""
    many = 0
    for old, new in zip(neighbours(size, place), neighbours(bigger, place)):
        if old != new:
            return many
        many = many + 1
    return many


def shows(size, place, stretches):
    """Tell whether the seals of stretches, but of those that hold place, show it."""
    return _first_hidden(size, place, stretches) == size


def unlike_logs(size, place, stretches):
    """Return two logs of unlike roots with one entry at place and the same seals of stretches."""
    hidden = _first_hidden(size, place, stretches)
    if hidden == size:
        raise CanNot()
    log = ("a",) * size
    return log, log[:hidden] + ("b",) + log[hidden + 1:]


def _takes(sealer, head, place, entry, seals):
    """Tell whether entry at place and seals, as a way, come to head."""
    size, top = head
    return len(seals) == way_length(size, place) and root_by(sealer, size, place, entry, seals) == top


def _matters_above(sealer, size, place, entry, seals):
    """Return the matters of the nodes above place, from the entry up, as seals tell them."""
    matters = [("leaf", entry)]
    for neighbour, seal in zip(neighbours(size, place), seals):
        own = sealed(sealer, matters[-1])
        matters.append(("node", own, seal) if place < neighbour[0] else ("node", seal, own))
    return matters


def _first_hidden(size, place, nodes):
    """Return the first place beside place that no node without place holds; size if there is none."""
    check_place(size, place)
    if not all(is_node_of(size, node) for node in nodes):
        raise Unfit()
    # Two nodes are side by side, or one is within the other. So all neighbours come of these nodes exactly if
    # they hold all places but this one.
    held = [(begin, end) for begin, end in nodes if not begin <= place < end] + [(place, place + 1)]
    reached = 0
    for begin, end in sorted(held):
        if reached < begin:
            break
        reached = max(reached, end)
    return reached
