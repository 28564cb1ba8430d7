"""One judge: claims, the papers for them and against them, and what comes of them."""

from leafway.errors import Unfit
from leafway.known import put_together
from leafway.lies import changed, lie_paper, lost_size
from leafway.papers import has_claim_form, is_first_of, says_so, verdict_on
from leafway.people import excuse, first_parting
from leafway.plain import tupled
from leafway.rises import rise
from leafway.roots import head_of
from leafway.telling import all_told, clash_among
from leafway.ways import way


def is_claim(thing):
    """Tell whether thing is a claim."""
    return has_claim_form(thing)


def is_so(claim):
    """Tell whether claim is so."""
    return says_so(_checked(claim))


def paper(claim):
    """Return a paper for claim if it is so, otherwise one against it."""
    own = _checked(claim)
    make = _MAKERS[own[0]]
    return make(own)


def is_paper_for(claim, thing):
    """Tell whether thing is a paper for claim."""
    return verdict_on(_checked(claim), thing) == "for"


def is_paper_against(claim, thing):
    """Tell whether thing is a paper against claim."""
    return verdict_on(_checked(claim), thing) == "against"


def verdicts(claims, things):
    """Return for each claim and the value at its place in things "for", "against" or "none"."""
    owns = [_checked(claim) for claim in claims]
    if len(owns) != len(things):
        raise Unfit()
    return [verdict_on(own, thing) for own, thing in zip(owns, things)]


def comes_of(claim, claims):
    """Tell whether claim is one of claims, or comes of one of them by a rule."""
    own = _checked(claim)
    others = [_checked(other) for other in claims]
    return any(_comes_of(own, other) for other in others)


def first_false(claims):
    """Return the first place in claims of one that is not so; None without."""
    owns = [_checked(claim) for claim in claims]
    for place, own in enumerate(owns):
        if not says_so(own):
            return place
    return None


def _checked(claim):
    """Return claim with tuples alone; Unfit() if it is none."""
    own = tupled(claim)
    if not has_claim_form(own):
        raise Unfit()
    return own


def _entry_paper(claim):
    """Return a way with the entry that stands at place, or the way alone."""
    _, sealer, log, place, entry = claim
    if place >= len(log):
        return ()
    seals = way(sealer, log, len(log), place)
    return seals if log[place] == entry else (log[place], seals)


def _rise_paper(claim):
    """Return a rise with the head that log has, or the rise alone."""
    _, sealer, log, old = claim
    if old[0] > len(log):
        return ()
    head, seals = head_of(sealer, log[:old[0]]), rise(sealer, log, old[0], len(log))
    return seals if head == old else (head, seals)


def _known_paper(claim):
    """Return what is known, or a clash."""
    _, sealer, head, things = claim
    found = put_together(sealer, head, things)
    return found[1] if found[0] == "known" else found[1:]


def _told_paper(claim):
    """Return a parting, a clash, or an excuse."""
    _, sealer, things = claim
    found = first_parting(sealer, things)
    if found is None:
        found = clash_among(sealer, [all_told(sealer, told) for told in things])
    return excuse(sealer, things) if found is None else found


def _lie_paper(claim):
    """Return a lie paper, or ()."""
    _, sealer, log, other = claim
    return lie_paper(sealer, log, other) if says_so(claim) else ()


def _missed_paper(claim):
    """Return a size of which log changed has not got log's head, or ()."""
    _, sealer, log, change, sizes = claim
    size = lost_size(sealer, log, changed(log, change), sizes)
    return () if size is None else size


_MAKERS = {"entry": _entry_paper, "rise": _rise_paper, "known": _known_paper, "told": _told_paper,
           "lie": _lie_paper, "missed": _missed_paper}


def _comes_of(claim, other):
    """Tell whether claim is other, or comes of it by the rule for its kind."""
    if claim == other:
        return True
    if claim[:2] != other[:2]:
        return False
    leads = _RULES[claim[0]]
    return leads(claim, other)


def _has_longer_log(claim, other):
    """Tell whether the log of other is the first so many of claim's, all else alike."""
    return claim[3:] == other[3:] and is_first_of(other[2], claim[2])


def _knows_less(claim, other):
    """Tell whether all things of claim are among other's, under one head."""
    return claim[2] == other[2] and all(told in other[3] for told in claim[3])


def _tells_more(claim, other):
    """Tell whether all things of other are among claim's."""
    return all(told in claim[2] for told in other[2])


def _has_longer_logs(claim, other):
    """Tell whether the logs of other, in one order or the other, are the first so many of claim's."""
    one, two = claim[2:]
    straight = is_first_of(other[2], one) and is_first_of(other[3], two)
    return straight or (is_first_of(other[2], two) and is_first_of(other[3], one))


def _has_fewer_sizes(claim, other):
    """Tell whether all sizes of claim are among other's, all else alike."""
    return claim[2:4] == other[2:4] and all(size in other[4] for size in claim[4])


_RULES = {"entry": _has_longer_log, "rise": _has_longer_log, "known": _knows_less, "told": _tells_more,
          "lie": _has_longer_logs, "missed": _has_fewer_sizes}
