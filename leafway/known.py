"""What is known of a log by what was taken under heads that rise to its head."""

from leafway.errors import Unfit
from leafway.many import is_all, is_many
from leafway.nodes import halves, is_node_of, seal_from
from leafway.plain import is_pair, tupled
from leafway.rises import is_rise
from leafway.roots import has_head, head_of
from leafway.seals import is_matter, sealed
from leafway.telling import all_told, clash_among, entries_of, heads_of
from leafway.ways import is_shown


def is_taken(sealer, thing):
    """Tell whether thing is a told thing that is taken."""
    return is_shown(sealer, thing) or is_rise(sealer, thing) or is_many(sealer, thing) or is_all(sealer, thing)


def tells(sealer, told):
    """Return the set of the pairs (stretch, seal) that told tells."""
    seals, _ = all_told(sealer, taken_ones(sealer, [told])[0])
    return tuple(sorted(seals.items()))


def opens(sealer, told):
    """Return the set of the pairs (stretch, matter) that told opens."""
    _, matters = all_told(sealer, taken_ones(sealer, [told])[0])
    return tuple(sorted(matters.items()))


def rising(things, head):
    """Return the set of the heads that rise to head by things, taken or not."""
    rises = [heads_of(told) for told in tupled(things) if told[0] == "rise"]
    found = [tupled(head)]
    looked_at = 0
    while looked_at < len(found):
        for old, newer in rises:
            if newer == found[looked_at] and old not in found:
                found.append(old)
        looked_at += 1
    return tuple(sorted(found))


def put_together(sealer, head, things):
    """Return ("known", known), what things tell under heads that rise to head, or ("clash", one, other)."""
    top, shown = tupled(head), taken_ones(sealer, things)
    if not all_rise(shown, top):
        raise Unfit()
    tellings = [all_told(sealer, told) for told in shown]
    clash = clash_among(sealer, tellings)
    if clash is not None:
        return "clash", clash[0], clash[1]
    size, top_seal = top
    seals = {(0, size): top_seal} if size > 0 else {}
    for own, _ in tellings:
        seals.update(own)
    entries = dict(entries_in(shown))
    return "known", (top, tuple(sorted(seals.items())), tuple(sorted(entries.items())))


def is_clash(sealer, thing):
    """Tell whether thing is a pair of unlike matters of one seal."""
    if not is_pair(thing) or not is_matter(sealer, thing[0]) or not is_matter(sealer, thing[1]):
        return False
    return thing[0] != thing[1] and sealed(sealer, thing[0]) == sealed(sealer, thing[1])


def is_true(sealer, told, log):
    """Tell whether told is true of log."""
    shown = taken_ones(sealer, [told])[0]
    if not all(has_head(sealer, log, own) for own in heads_of(shown)):
        return False
    return all(log[place] == entry for place, entry in entries_of(shown))


def fills(sealer, known, log):
    """Tell whether log fills known."""
    head, seals, entries = known
    if head_of(sealer, log) != tupled(head) or not all(log[place] == entry for place, entry in entries):
        return False
    table = {(place, place + 1): sealed(sealer, ("leaf", entry)) for place, entry in enumerate(log)}
    return all(seal_from(sealer, table, tuple(stretch)) == tupled(seal) for stretch, seal in seals)


def needed(known):
    """Return the set of the stretches whose seals are known, and nothing of what is below."""
    head, seals, entries = known
    stretches = [tuple(stretch) for stretch, _ in seals]
    nodes = [stretch for stretch in stretches if is_node_of(head[0], stretch)]
    sealed_ones = {stretch: True for stretch in stretches}
    told = {place: True for place, _ in entries}
    return tuple([stretch for stretch in nodes if not _is_known_below(stretch, sealed_ones, told)])


def taken_ones(sealer, things):
    """Return things as tuples; Unfit() if one is not taken."""
    shown = tupled(things)
    if not all(is_taken(sealer, told) for told in shown):
        raise Unfit()
    return shown


def all_rise(things, head):
    """Tell whether each head in things rises to head by them."""
    risen = rising(things, head)
    return all(own in risen for told in things for own in heads_of(told))


def entries_in(things):
    """Return the pairs (place, entry) of all of things."""
    return [pair for told in things for pair in entries_of(told)]


def _is_known_below(stretch, seals, entries):
    """Tell whether both halves of stretch are in the dict seals, or its one place in the dict entries."""
    begin, end = stretch
    if end - begin == 1:
        return begin in entries
    left, right = halves(stretch)
    return left in seals and right in seals
