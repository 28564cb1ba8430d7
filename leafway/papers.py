"""Claims kind by kind: what makes one, whether it is so, and what is a paper for it or against it.

All of this takes claims without lists in them.
"""

from leafway.known import all_rise, is_clash, is_taken, put_together
from leafway.lies import changed, is_change, is_lie_paper, lost_size, wrong_number
from leafway.people import EXCUSE_SIZE, can_tell, is_excuse, is_parting
from leafway.plain import is_number, is_number_from, is_pair
from leafway.rises import is_rise
from leafway.roots import has_head, head_of, is_head
from leafway.seals import is_entry, is_log, is_sealer
from leafway.telling import all_told, heads_of
from leafway.ways import is_way


def _is_entry_claim(claim):
    """Tell whether a tuple ("entry", sealer, log, place, entry) is a claim."""
    _, _, log, place, entry = claim
    return is_log(log) and is_number_from(0, place) and is_entry(entry)


def _is_entry_so(claim):
    """Tell whether entry stands at place of log."""
    _, _, log, place, entry = claim
    return place < len(log) and log[place] == entry


def _is_entry_for(claim, thing):
    """Tell whether thing is a way that shows the entry of a claim that is so."""
    _, sealer, log, place, entry = claim
    return is_way(sealer, head_of(sealer, log), place, entry, thing)


def _is_entry_against(claim, thing):
    """Tell whether thing shows another entry than that of a claim that is not so, or log has no such place."""
    _, sealer, log, place, entry = claim
    if place >= len(log):
        return thing == ()
    if not is_pair(thing) or not is_entry(thing[0]) or thing[0] == entry:
        return False
    return is_way(sealer, head_of(sealer, log), place, thing[0], thing[1])


def _is_rise_claim(claim):
    """Tell whether a tuple ("rise", sealer, log, old) is a claim."""
    _, sealer, log, old = claim
    return is_log(log) and is_head(sealer, old) and old[0] > 0


def _is_rise_so(claim):
    """Tell whether old is the head of log's first so many entries."""
    _, sealer, log, old = claim
    return has_head(sealer, log, old)


def _is_rise_for(claim, thing):
    """Tell whether thing is a way of the rise of a claim that is so."""
    _, sealer, log, old = claim
    return is_rise(sealer, ("rise", old, head_of(sealer, log), thing))


def _is_rise_against(claim, thing):
    """Tell whether thing shows another head than that of a claim that is not so, or log has fewer entries."""
    _, sealer, log, old = claim
    if old[0] > len(log):
        return thing == ()
    if not is_pair(thing) or not is_head(sealer, thing[0]) or thing[0][0] != old[0] or thing[0] == old:
        return False
    return is_rise(sealer, ("rise", thing[0], head_of(sealer, log), thing[1]))


def _is_known_claim(claim):
    """Tell whether a tuple ("known", sealer, head, things) is a claim."""
    _, sealer, head, things = claim
    return is_head(sealer, head) and _are_taken(sealer, things) and all_rise(things, head)


def _is_known_so(claim):
    """Tell whether things do not clash."""
    _, sealer, head, things = claim
    return put_together(sealer, head, things)[0] == "known"


def _is_known_for(claim, thing):
    """Tell whether thing is what is known by the things of a claim that is so."""
    _, sealer, head, things = claim
    _, known = put_together(sealer, head, things)
    if thing != known:
        return False
    (size, top), seals, entries = thing
    values = [size, top] + [place for place, _ in entries]
    for (begin, end), seal in seals:
        values.extend([begin, end, seal])
    # True is equal to 1, but no number.
    return not any(isinstance(own, bool) for own in values)


def _is_known_against(claim, thing):
    """Tell whether thing is a clash by which two things of a claim open one stretch."""
    _, sealer, _, things = claim
    return _is_clash_in(sealer, things, thing)


def _is_told_claim(claim):
    """Tell whether a tuple ("told", sealer, things) is a claim."""
    _, sealer, things = claim
    return _are_taken(sealer, things) and all(own[0] <= EXCUSE_SIZE for told in things for own in heads_of(told))


def _is_told_so(claim):
    """Tell whether things can be told."""
    _, sealer, things = claim
    return can_tell(sealer, things)


def _is_told_for(claim, thing):
    """Tell whether thing is a parting of two things of a claim that is so, or a clash."""
    _, sealer, things = claim
    if is_parting(sealer, thing):
        return thing[1] in things and thing[2] in things
    return _is_clash_in(sealer, things, thing)


def _is_told_against(claim, thing):
    """Tell whether thing is an excuse for the things of a claim that is not so."""
    _, sealer, things = claim
    return is_excuse(sealer, things, thing)


def _is_lie_claim(claim):
    """Tell whether a tuple ("lie", sealer, log, other) is a claim."""
    _, _, log, other = claim
    return is_log(log) and is_log(other)


def _is_lie_so(claim):
    """Tell whether neither log is the first so many of the other."""
    _, _, log, other = claim
    return not is_first_of(log, other) and not is_first_of(other, log)


def _is_lie_for(claim, thing):
    """Tell whether thing is a lie paper under the heads of both logs."""
    _, sealer, log, other = claim
    if not is_lie_paper(sealer, thing):
        return False
    return thing[0][1] == head_of(sealer, log) and thing[1][1] == head_of(sealer, other)


def _is_nothing(_claim, thing):
    """Tell whether thing is (), all that there is to show for some claims and against some."""
    return thing == ()


def _is_missed_claim(claim):
    """Tell whether a tuple ("missed", sealer, log, change, sizes) is a claim."""
    _, _, log, change, sizes = claim
    if not is_log(log) or not is_change(change) or wrong_number(log, change) is not None:
        return False
    return _is_set_to(len(log), sizes)


def _is_missed_so(claim):
    """Tell whether log changed has all heads of log of sizes."""
    _, sealer, log, change, sizes = claim
    return lost_size(sealer, log, changed(log, change), sizes) is None


def _is_missed_against(claim, thing):
    """Tell whether thing is a size of sizes of which log changed has not got log's head."""
    _, sealer, log, change, sizes = claim
    if not is_number(thing) or thing not in sizes:
        return False
    return lost_size(sealer, log, changed(log, change), [thing]) is not None


def is_first_of(log, longer):
    """Tell whether log is the first so many of longer."""
    return longer[:len(log)] == log


def _are_taken(sealer, things):
    """Tell whether things is a tuple of told things that are taken."""
    return isinstance(things, tuple) and all(is_taken(sealer, told) for told in things)


def _is_set_to(most, thing):
    """Tell whether thing is an ascending tuple of numbers from 0 to most."""
    if not isinstance(thing, tuple) or not all(is_number(own) and 0 <= own <= most for own in thing):
        return False
    return all(one < other for one, other in zip(thing, thing[1:]))


def _is_clash_in(sealer, things, thing):
    """Tell whether thing is a clash by which things open one stretch."""
    if not is_clash(sealer, thing):
        return False
    tables = [all_told(sealer, told)[1] for told in things]
    opened = _stretches_opened(tables, thing[0])
    return any(stretch in opened for stretch in _stretches_opened(tables, thing[1]))


def _stretches_opened(tables, matter):
    """Return a dict of the stretches that are opened by matter in one of tables."""
    return {stretch: True for table in tables for stretch, own in table.items() if own == matter}


# How many parts a claim of each kind has.
_LENGTHS = {"entry": 5, "rise": 4, "known": 4, "told": 3, "lie": 4, "missed": 5}

_FORMS = {"entry": _is_entry_claim, "rise": _is_rise_claim, "known": _is_known_claim, "told": _is_told_claim,
          "lie": _is_lie_claim, "missed": _is_missed_claim}

_TRUTHS = {"entry": _is_entry_so, "rise": _is_rise_so, "known": _is_known_so, "told": _is_told_so, "lie": _is_lie_so,
           "missed": _is_missed_so}

_PAPERS_FOR = {"entry": _is_entry_for, "rise": _is_rise_for, "known": _is_known_for, "told": _is_told_for,
               "lie": _is_lie_for, "missed": _is_nothing}

_PAPERS_AGAINST = {"entry": _is_entry_against, "rise": _is_rise_against, "known": _is_known_against,
                   "told": _is_told_against, "lie": _is_nothing, "missed": _is_missed_against}


def has_claim_form(thing):
    """Tell whether thing is a claim."""
    if not isinstance(thing, tuple) or len(thing) < 2 or not isinstance(thing[0], str) or thing[0] not in _LENGTHS:
        return False
    if len(thing) != _LENGTHS[thing[0]] or not is_sealer(thing[1]):
        return False
    has_form = _FORMS[thing[0]]
    return has_form(thing)


def says_so(claim):
    """Tell whether a claim is so."""
    is_true_of = _TRUTHS[claim[0]]
    return is_true_of(claim)


def verdict_on(claim, thing):
    """Return "for" or "against", if thing is such a paper, otherwise "none"."""
    # Asked first: by weak seals a paper may fit, by chance, a claim that it does not stand for.
    if says_so(claim):
        is_for = _PAPERS_FOR[claim[0]]
        return "for" if is_for(claim, thing) else "none"
    is_against = _PAPERS_AGAINST[claim[0]]
    return "against" if is_against(claim, thing) else "none"
