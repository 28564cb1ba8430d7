"""Several entries at once, shown by the few seals of what stands beside them."""

from leafway.errors import CanNot, NoPlace, Unfit
from leafway.nodes import check_place, halves, seal_from
from leafway.plain import begins, is_number_from, is_pair, tupled
from leafway.roots import head_of, is_head, seal_of_stretch
from leafway.seals import is_entry, is_log, is_seals, sealed
from leafway.ways import way_length


def many_stretches(size, places):
    """Return the stretches beside places in size, ascending."""
    _check_places(size, places)
    beside, waiting = [], [((0, size), places)]
    while waiting:
        node, held = waiting.pop()
        if not held:
            beside.append(node)
        elif node[1] - node[0] > 1:
            left, right = halves(node)
            # What is put in last is taken out first: so the stretches come from the left.
            waiting.append((right, [place for place in held if place >= right[0]]))
            waiting.append((left, [place for place in held if place < left[1]]))
    return tuple(beside)


def many_length(size, places):
    """Return how many stretches stand beside places in size."""
    return len(many_stretches(size, places))


def many(sealer, log, size, places):
    """Return the told thing that tells the entries of the first size ones of log at places."""
    _check_places(size, places)
    if len(log) < size:
        raise Unfit()
    seals = tuple([seal_of_stretch(sealer, log, own) for own in many_stretches(size, places)])
    return "many", head_of(sealer, log[:size]), tuple([(place, log[place]) for place in places]), seals


def root_by_many(sealer, size, entries, way):
    """Return the root that comes of entries at their places and way."""
    if len(way) != many_length(size, _places_of(entries)):
        raise Unfit()
    return seal_from(sealer, _seals_told(sealer, size, entries, tupled(way)), (0, size))


def is_many(sealer, thing):
    """Tell whether thing is a told thing ("many", ..) that is taken."""
    if not begins(thing, "many", 4):
        return False
    _, head, entries, seals = thing
    if not is_head(sealer, head) or not is_seals(sealer, seals) or not _is_entries(head[0], entries):
        return False
    size, top = head
    if not _may_be_enough(size, entries, seals) or len(seals) != many_length(size, _places_of(entries)):
        return False
    return root_by_many(sealer, size, entries, seals) == top


def is_all(sealer, thing):
    """Tell whether thing is a told thing ("all", ..) that is taken."""
    if not begins(thing, "all", 3):
        return False
    _, head, log = thing
    return is_head(sealer, head) and is_log(log) and len(log) == head[0] and head_of(sealer, log) == head


def thinned(sealer, told, places):
    """Return the told thing that tells just the entries at places, out of told alone."""
    source = tupled(told)
    if not is_many(sealer, source):
        raise Unfit()
    _, head, entries, seals = source
    table = dict(entries)
    for place in places:
        if place not in table:
            raise NoPlace(place)
    known = _seals_told(sealer, head[0], entries, seals)
    beside = many_stretches(head[0], places)
    fewer = tuple([(place, table[place]) for place in places])
    return "many", head, fewer, tuple([seal_from(sealer, known, own) for own in beside])


def united(sealer, one, other):
    """Return the told thing with the entries of both, its seals out of theirs."""
    first, second = tupled(one), tupled(other)
    if not is_many(sealer, first) or not is_many(sealer, second) or first[1] != second[1]:
        raise Unfit()
    head = first[1]
    table = _both(dict(first[2]), dict(second[2]))
    seals = _both(_seals_beside(first), _seals_beside(second))
    beside = many_stretches(head[0], sorted(table))
    told = ("many", head, tuple(sorted(table.items())), tuple([seals[own] for own in beside]))
    if not is_many(sealer, told):
        raise CanNot()
    return told


def _check_places(size, places):
    """Raise NoPlace with the first of places that is not one from 0 below size."""
    for place in places:
        check_place(size, place)
    if not places:
        # Several entries are one at least; there is no place to name.
        raise NoPlace(None)


def _places_of(entries):
    """Return the places of entries, in their order."""
    return tuple([place for place, _ in entries])


def _is_entries(size, thing):
    """Tell whether thing is a tuple, not (), of pairs (place, entry), ascending and below size."""
    if not isinstance(thing, tuple) or thing == ():
        return False
    least = 0
    for pair in thing:
        if not is_pair(pair) or not is_number_from(least, pair[0]) or not is_entry(pair[1]):
            return False
        least = pair[0] + 1
    return least <= size


def _may_be_enough(size, entries, seals):
    """Tell whether seals may be as many as there are stretches beside the places of entries."""
    # Each neighbour on the way of a place stands beside all of them, or holds another one of them. To ask so first
    # spares looking through a size far too great.
    most = len(seals) + len(entries) - 1
    return all(way_length(size, place) <= most for place, _ in entries)


def _seals_beside(told):
    """Return the seals on the way of told, each by its stretch."""
    _, head, entries, seals = told
    return dict(zip(many_stretches(head[0], _places_of(entries)), seals))


def _seals_told(sealer, size, entries, seals):
    """Return the seals beside entries and those of the entries themselves, each by its stretch."""
    table = dict(zip(many_stretches(size, _places_of(entries)), seals))
    for place, entry in entries:
        table[(place, place + 1)] = sealed(sealer, ("leaf", entry))
    return table


def _both(one, other):
    """Return what stands in both dicts; CanNot() if they have unlike values for one key."""
    table = {key: one[key] for key in one}
    for key, value in other.items():
        if table.setdefault(key, value) != value:
            raise CanNot()
    return table
