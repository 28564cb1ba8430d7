"""What a told thing that is taken tells, and whether several of them part or clash."""

from leafway.many import many_stretches
from leafway.rises import rise, rise_stretches
from leafway.roots import head_of
from leafway.seals import sealed
from leafway.ways import neighbours, way


def entry_told(sealer, log, place):
    """Return the told thing by which log shows the entry at place."""
    seals = way(sealer, log, len(log), place)
    return "entry", head_of(sealer, log), place, log[place], seals


def rise_told(sealer, log, old):
    """Return the told thing by which log shows the rise from the head of its first old entries."""
    seals = rise(sealer, log, old, len(log))
    return "rise", head_of(sealer, log[:old]), head_of(sealer, log), seals


def heads_of(told):
    """Return the heads of told."""
    if told[0] == "rise":
        return told[1], told[2]
    return (told[1],)


def entries_of(told):
    """Return the pairs (place, entry) of told."""
    if told[0] == "entry":
        return ((told[2], told[3]),)
    if told[0] == "many":
        return told[2]
    if told[0] == "all":
        return tuple(enumerate(told[2]))
    return ()


def all_told(sealer, told):
    """Return the seals that told tells and the matters by which it opens stretches: two dicts, by stretches.

    What is taken tells one seal of a stretch and opens it by one matter: its way and its entries stand side by side
    in its head, and the roots of its heads are those that come of them.
    """
    seals = dict(_seals_on_way(told))
    for size, top in heads_of(told):
        if size > 0:
            seals[(0, size)] = top
    matters = {}
    for place, entry in entries_of(told):
        matters[(place, place + 1)] = ("leaf", entry)
        seals[(place, place + 1)] = sealed(sealer, ("leaf", entry))
    _add_nodes(sealer, seals, matters)
    return seals, matters


def clash_among(sealer, tellings):
    """Return two unlike matters of one seal by which two of tellings open a stretch; None without."""
    table = {}
    for _, matters in tellings:
        for stretch, matter in matters.items():
            others = table.setdefault(stretch, [])
            if matter in others:
                continue
            for other in others:
                if sealed(sealer, other) == sealed(sealer, matter):
                    return other, matter
            others.append(matter)
    return None


def parting_among(tellings):
    """Return a stretch and the places in tellings of two that tell unlike seals of it; None without."""
    first = {}
    for number, (seals, _) in enumerate(tellings):
        for stretch, seal in seals.items():
            # Where any two tell unlike seals, one of them tells another one than the first does.
            if stretch not in first:
                first[stretch] = (seal, number)
            elif first[stretch][0] != seal:
                return stretch, first[stretch][1], number
    return None


def quarrels_among(tellings):
    """Return the pairs of places in tellings of two that part or clash, the lesser one first."""
    table, found = {}, {}
    for number, (seals, matters) in enumerate(tellings):
        for stretch, seal in seals.items():
            matter, alike = matters.get(stretch), None
            groups = table.setdefault(stretch, [])
            for other_seal, other_matter, numbers in groups:
                if seal != other_seal or _are_unlike(matter, other_matter):
                    found.update({(other, number): True for other in numbers})
                elif (matter is None) == (other_matter is None):
                    alike = numbers
            if alike is None:
                groups.append((seal, matter, [number]))
            else:
                alike.append(number)
    return sorted(found)


def _are_unlike(matter, other):
    """Tell whether both are matters, and unlike ones; None stands for no matter."""
    return matter is not None and other is not None and matter != other


def _seals_on_way(told):
    """Return the pairs of the stretches on the way of told and their seals."""
    if told[0] == "entry":
        parts = neighbours(told[1][0], told[2])
    elif told[0] == "rise":
        parts = rise_stretches(told[1][0], told[2][0])
    elif told[0] == "many":
        parts = many_stretches(told[1][0], tuple([place for place, _ in told[2]]))
    else:
        return []
    return list(zip(parts, told[-1]))


def _add_nodes(sealer, seals, matters):
    """Add to both dicts the nodes of whatever size whose halves have seals."""
    latest = {}
    for begin, end in seals:
        latest[end] = max(begin, latest.get(end, 0))
    for end in sorted(latest):
        begin = latest[end]
        # All nodes that end here begin where 1s, written by twos, are taken out of begin, from the last one on. Such
        # a one is the right half of the next one. The left half ends ahead of end, so it has been looked at before;
        # and it has a seal, as all places ahead of a told stretch are told of, too.
        while begin > 0:
            ahead = begin - (begin & -begin)
            matters[(ahead, end)] = ("node", seals[(ahead, begin)], seals[(begin, end)])
            if (ahead, end) not in seals:
                seals[(ahead, end)] = sealed(sealer, matters[(ahead, end)])
            begin = ahead
