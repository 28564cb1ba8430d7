"""Own reckonings of what is shown to people: what things tell, who holds what, and who can tell."""

import itertools
import random

from tests.reckoning import all_taken, entry_form, entry_taken, leaf, many_taken, node, number_from, own_beside
from tests.reckoning import own_crown, own_head, own_nodes, own_rise, own_seal, own_way, rise_taken, root_of_many
from tests.reckoning import root_up, roots_up, seal_form, sets_below, told_all, told_entry, told_many, told_rise


def taken(sealer, thing):
    """Whether thing is a told thing that is taken [10]."""
    return any(own(sealer, thing) for own in (entry_taken, rise_taken, many_taken, all_taken))


def heads_in(told):
    return [told[1], told[2]] if told[0] == "rise" else [told[1]]


def entries_in(told):
    """The entries of a told thing, with their places."""
    if told[0] == "entry":
        return [told[2:4]]
    return {"rise": [], "many": list(told[2]), "all": list(enumerate(told[2]))}[told[0]]


def seals_on_way(told):
    """The seals that stand on the way of a told thing, with their stretches."""
    size = told[1][0]
    if told[0] == "entry":
        return list(zip(own_way(size, told[2]), told[4]))
    if told[0] == "rise":
        return list(zip(own_rise(size, told[2][0]), told[3]))
    if told[0] == "many":
        return list(zip(own_beside(0, size, [place for place, _ in told[2]]), told[3]))
    return []


def is_node_in(begin, end, size):
    """Whether (begin, end) is a node of size, found by going down."""
    low, high = 0, size
    while (low, high) != (begin, end):
        if high - low == 1:
            return False
        middle = low + own_crown(high - low)
        low, high = (low, middle) if begin < middle else (middle, high)
        if begin < low or end > high:
            return False
    return True


def nodes_between(edges):
    """All nodes, of whatever size, of two places or more, that begin and end at one of edges."""
    return [(begin, end) for begin, end in itertools.combinations(sorted(edges), 2)
            if end - begin > 1 and is_node_in(begin, end, end)]


def all_nodes(most):
    """All nodes of all sizes up to most, of two places or more."""
    found = {own for size in range(1, most + 1) for own in own_nodes(0, size)}
    return sorted(own for own in found if own[1] - own[0] > 1)


def own_told(sealer, told, nodes=None):
    """The sets of pairs (stretch, seal) and (stretch, matter) that told tells and opens [10], by their own words.

    Whatever comes is put in, until nothing new comes.
    """
    seals = set(seals_on_way(told)) | {((0, size), top) for size, top in heads_in(told) if size > 0}
    matters = set()
    for place, entry in entries_in(told):
        matters.add(((place, place + 1), ("leaf", entry)))
        seals.add(((place, place + 1), leaf(sealer, entry)))
    if nodes is None:
        nodes = nodes_between({edge for stretch, _ in seals for edge in stretch})
    grown = -1
    while grown < len(seals) + len(matters):
        grown = len(seals) + len(matters)
        table = {}
        for stretch, seal in seals:
            table.setdefault(stretch, []).append(seal)
        for begin, end in nodes:
            middle = begin + own_crown(end - begin)
            for left, right in itertools.product(table.get((begin, middle), []), table.get((middle, end), [])):
                matters.add(((begin, end), ("node", left, right)))
                seals.add(((begin, end), node(sealer, left, right)))
    return tuple(sorted(seals)), tuple(sorted(matters))


def own_rising(things, head):
    """The heads that rise to head [10]."""
    found = {head}
    for _ in things:
        found |= {told[1] for told in things if told[0] == "rise" and told[2] in found}
    return tuple(sorted(found))


def is_own_clash(sealer, one, other):
    return one != other and own_seal(sealer, one) == own_seal(sealer, other)


def two_part(one, other):
    """Whether two part, each given by what it tells and opens."""
    table = {}
    for stretch, seal in one[0]:
        table.setdefault(stretch, set()).add(seal)
    return any(stretch in table and table[stretch] != {seal} for stretch, seal in other[0])


def two_clash(sealer, one, other):
    """Whether two clash, each given by what it tells and opens."""
    table = {}
    for stretch, matter in one[1]:
        table.setdefault(stretch, []).append(matter)
    return any(is_own_clash(sealer, matter, two) for stretch, matter in other[1] for two in table.get(stretch, []))


def own_can(sealer, things):
    """Whether things can be told [11]."""
    tellings = [own_told(sealer, told) for told in things]
    return any(two_part(*two) or two_clash(sealer, *two) for two in itertools.combinations(tellings, 2))


def own_known(sealer, head, things):
    """What is known by things under head [10], as sets of pairs; a stretch may stand there twice."""
    seals = {((0, head[0]), head[1])} if head[0] > 0 else set()
    entries = set()
    for told in things:
        seals |= set(own_told(sealer, told)[0])
        entries |= set(entries_in(told))
    return head, tuple(sorted(seals)), tuple(sorted(entries))


def play(sealer, history):
    """What each person holds behind each event: a list of dicts of lists."""
    held, found = {}, []
    for event in history:
        held = {person: list(own) for person, own in held.items()}
        if event[0] == "show":
            own = held.setdefault(event[1], [])
            if taken(sealer, event[2]) and event[2] not in own:
                own.append(event[2])
        else:
            one, other = held.get(event[1], []), held.get(event[2], [])
            held[event[1]] = one + [told for told in other if told not in one]
            held[event[2]] = other + [told for told in one if told not in other]
        found.append(held)
    return found


def all_things(sealer, log):
    """What the document's words let log show of its first 0, 1, .. entries, by each word."""
    found = []
    for size in range(len(log) + 1):
        first = log[:size]
        found.append(told_all(sealer, first))
        found += [told_entry(sealer, first, place) for place in range(size)]
        found += [told_many(sealer, first, places) for places in sets_below(size)]
        found += [told_rise(sealer, first, old, size) for old in range(1, size + 1)]
    return found


def chance_things(sealer, most, many, seed):
    """Taken things of sizes up to most with any seals, as a liar would make them up; weak ones often meet."""
    draw, found = random.Random(seed), []

    def drawn(count):
        return tuple(draw.choice(kinds) for _ in range(count))

    kinds = [leaf(sealer, own) for own in ("a", "b", "c", "d")]
    while len(found) < many:
        size = draw.randrange(1, most + 1)
        word = draw.choice(("entry", "rise", "many", "all"))
        if word == "entry":
            place, entry, way = draw.randrange(size), draw.choice("abcd"), ()
            way = drawn(len(own_way(size, place)))
            found.append((word, (size, root_up(sealer, size, place, entry, way)), place, entry, way))
        elif word == "rise":
            old = draw.randrange(1, size + 1)
            way, top = drawn(len(own_rise(old, size))), drawn(1)[0]
            elder, newer = roots_up(sealer, (old, top), size, way)
            found.append((word, (old, elder), (size, newer), way))
        elif word == "many":
            places = draw.choice(sets_below(size))
            entries = tuple((place, draw.choice("abcd")) for place in places)
            way = drawn(len(own_beside(0, size, places)))
            found.append((word, (size, root_of_many(sealer, size, entries, way)), entries, way))
        else:
            log = tuple(draw.choice("abcd") for _ in range(size))
            found.append((word, own_head(sealer, log), log))
    return found


def matter_form(sealer, thing):
    """Whether thing is a matter [3]."""
    if type(thing) is not tuple:
        return False
    if len(thing) == 3 and thing[0] == "node":
        return seal_form(sealer, thing[1]) and seal_form(sealer, thing[2])
    return thing == ("none",) or (len(thing) == 2 and thing[0] == "leaf" and entry_form(thing[1]))


def clash_form(sealer, thing):
    """Whether thing is a clash [10]."""
    if type(thing) is not tuple or len(thing) != 2:
        return False
    return matter_form(sealer, thing[0]) and matter_form(sealer, thing[1]) and is_own_clash(sealer, *thing)


def stretch_form(thing):
    return type(thing) is tuple and len(thing) == 2 and number_from(0, thing[0]) and number_from(thing[0] + 1, thing[1])


def parting_form(sealer, thing):
    """Whether thing is a parting [11]."""
    if type(thing) is not tuple or len(thing) != 3 or not stretch_form(thing[0]):
        return False
    if not taken(sealer, thing[1]) or not taken(sealer, thing[2]):
        return False
    one, other = dict(own_told(sealer, thing[1])[0]), dict(own_told(sealer, thing[2])[0])
    return thing[0] in one and thing[0] in other and one[thing[0]] != other[thing[0]]


def excuse_form(sealer, things, thing):
    """Whether thing is an excuse for things, all taken [11]."""
    if own_can(sealer, things) or type(thing) is not tuple or not all(entry_form(own) for own in thing):
        return False
    if len(thing) != max([size for told in things for size, _ in heads_in(told)], default=0):
        return False
    return all(thing[place] == entry for told in things for place, entry in entries_in(told))


def own_true(sealer, told, log):
    """Whether told is true of log [3]."""
    for size, top in heads_in(told):
        if size > len(log) or own_head(sealer, log[:size]) != (size, top):
            return False
    return all(log[place] == entry for place, entry in entries_in(told))


def own_fills(sealer, known, log):
    """Whether log fills known [3]."""
    head, seals, entries = known
    if head != own_head(sealer, log) or any(log[place] != entry for place, entry in entries):
        return False
    return all(own_head(sealer, log[begin:end])[1] == seal for (begin, end), seal in seals)


def own_needed(known):
    """The stretches of nodes that are known with nothing known below [10]."""
    (size, _), seals, entries = known
    table, places, found = dict(seals), dict(entries), []
    for begin, end in table:
        if end - begin == 1:
            below = begin in places
        else:
            middle = begin + own_crown(end - begin)
            below = (begin, middle) in table and (middle, end) in table
        if not below and is_node_in(begin, end, size):
            found.append((begin, end))
    return tuple(sorted(found))
