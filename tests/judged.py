"""Own reckonings of claims and papers [15], by the words of the document's table."""

from tests.reckoning import entry_form, entry_taken, head_form, number_from, own_head, rise_taken
from tests.shown import clash_form, excuse_form, heads_in, own_can, own_known, own_rising, own_told, parting_form, taken
from tests.shown import two_clash
from tests.test_lies import change_form, own_changed, paper_form

LENGTHS = {"entry": 5, "rise": 4, "known": 4, "told": 3, "lie": 4, "missed": 5}


def sealer_form(thing):
    if type(thing) is not tuple or thing in (("sha",), ("whole",)):
        return type(thing) is tuple
    return len(thing) == 3 and thing[0] == "weak" and number_from(2, thing[1]) and number_from(0, thing[2])


def log_form(thing):
    return type(thing) is tuple and all(entry_form(own) for own in thing)


def things_form(sealer, thing):
    return type(thing) is tuple and all(taken(sealer, told) for told in thing)


def claim_form(thing):
    """Whether thing is a claim."""
    if type(thing) is not tuple or not thing or type(thing[0]) is not str or LENGTHS.get(thing[0]) != len(thing):
        return False
    word, sealer, *parts = thing
    if not sealer_form(sealer):
        return False
    if word == "entry":
        return log_form(parts[0]) and number_from(0, parts[1]) and entry_form(parts[2])
    if word == "rise":
        return log_form(parts[0]) and head_form(sealer, parts[1]) and parts[1][0] > 0
    if word == "known":
        if not head_form(sealer, parts[0]) or not things_form(sealer, parts[1]):
            return False
        return all(head in own_rising(parts[1], parts[0]) for told in parts[1] for head in heads_in(told))
    if word == "told":
        return things_form(sealer, parts[0]) and all(head[0] <= 300 for told in parts[0] for head in heads_in(told))
    if word == "lie":
        return log_form(parts[0]) and log_form(parts[1])
    return missed_form(*parts)


def missed_form(log, change, sizes):
    if not log_form(log) or not change_form(change) or own_changed(log, change)[:1] == ("NoPlace",):
        return False
    if type(sizes) is not tuple or not all(number_from(0, size) and size <= len(log) for size in sizes):
        return False
    return list(sizes) == sorted(set(sizes))


def lost(sealer, log, change, size):
    other = own_changed(log, change)
    return size > len(other) or own_head(sealer, other[:size]) != own_head(sealer, log[:size])


def so(claim):
    """Whether a claim is so."""
    word, sealer, *parts = claim
    if word == "entry":
        return parts[0][parts[1]:parts[1] + 1] == (parts[2],)
    if word == "rise":
        size = parts[1][0]
        return size <= len(parts[0]) and own_head(sealer, parts[0][:size]) == parts[1]
    if word == "known":
        tellings = [own_told(sealer, told) for told in parts[1]]
        return not any(two_clash(sealer, one, other) for one in tellings for other in tellings)
    if word == "told":
        return own_can(sealer, parts[0])
    if word == "lie":
        many = min(len(parts[0]), len(parts[1]))
        return parts[0][:many] != parts[1][:many]
    return not any(lost(sealer, parts[0], parts[1], size) for size in parts[2])


def exactly(thing, value):
    """Whether thing is value, also in its kinds: True is not 1."""
    return thing == value and repr(thing) == repr(value)


def opened_by(sealer, things, matter):
    return {stretch for told in things for stretch, own in own_told(sealer, told)[1] if own == matter}


def clash_in(sealer, things, thing):
    if not clash_form(sealer, thing):
        return False
    return bool(opened_by(sealer, things, thing[0]) & opened_by(sealer, things, thing[1]))


def fits_for(claim, thing):
    """Whether thing is a paper for a claim that is so."""
    word, sealer, *parts = claim
    if word == "entry":
        return entry_taken(sealer, ("entry", own_head(sealer, parts[0]), parts[1], parts[2], thing))
    if word == "rise":
        return rise_taken(sealer, ("rise", parts[1], own_head(sealer, parts[0]), thing))
    if word == "known":
        return exactly(thing, own_known(sealer, *parts))
    if word == "told":
        parts_there = parting_form(sealer, thing) and thing[1] in parts[0] and thing[2] in parts[0]
        return parts_there or clash_in(sealer, parts[0], thing)
    if word == "lie":
        heads = [own_head(sealer, parts[0]), own_head(sealer, parts[1])]
        return paper_form(sealer, thing) and [told[1] for told in thing] == heads
    return exactly(thing, ())


def fits_against(claim, thing):
    """Whether thing is a paper against a claim that is not so."""
    word, sealer, *parts = claim
    if word in ("entry", "rise"):
        none = parts[1] >= len(parts[0]) if word == "entry" else parts[1][0] > len(parts[0])
        if none:
            return exactly(thing, ())
        if type(thing) is not tuple or len(thing) != 2 or thing[0] == parts[-1]:
            return False
        if word == "entry":
            return entry_taken(sealer, ("entry", own_head(sealer, parts[0]), parts[1], *thing))
        told = ("rise", thing[0], own_head(sealer, parts[0]), thing[1])
        return rise_taken(sealer, told) and thing[0][0] == parts[1][0]
    if word == "known":
        return clash_in(sealer, parts[1], thing)
    if word == "told":
        return excuse_form(sealer, parts[0], thing)
    if word == "lie":
        return exactly(thing, ())
    return type(thing) is int and thing in parts[2] and lost(sealer, parts[0], parts[1], thing)


def verdict(claim, thing):
    if so(claim):
        return "for" if fits_for(claim, thing) else "none"
    return "against" if fits_against(claim, thing) else "none"


def starts(log, longer):
    return len(log) <= len(longer) and all(one == other for one, other in zip(log, longer))


def one_comes(claim, other):
    """Whether claim is other or comes of it by a rule."""
    if claim == other:
        return True
    if claim[:2] != other[:2]:
        return False
    if claim[0] in ("entry", "rise"):
        return claim[3:] == other[3:] and starts(other[2], claim[2])
    if claim[0] == "known":
        return claim[2] == other[2] and all(told in other[3] for told in claim[3])
    if claim[0] == "told":
        return all(told in claim[2] for told in other[2])
    if claim[0] == "lie":
        return any(starts(other[2], one) and starts(other[3], two) for one, two in (claim[2:], claim[:1:-1]))
    return claim[2:4] == other[2:4] and set(claim[4]) <= set(other[4])
