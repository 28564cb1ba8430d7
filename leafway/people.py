"""People who meet, and what they can tell of a server by what they hold."""

from leafway.errors import CanNot, TooMuch
from leafway.known import entries_in, is_taken, taken_ones
from leafway.plain import begins, is_number_from, is_stretch, tupled
from leafway.seals import is_log
from leafway.telling import all_told, clash_among, heads_of, parting_among, quarrels_among

# No excuse has more entries than this.
EXCUSE_SIZE = 300


def is_event(thing):
    """Tell whether thing is an event, whatever is shown in it."""
    if begins(thing, "show", 3):
        return is_number_from(0, thing[1])
    if not begins(thing, "meet", 3):
        return False
    return is_number_from(0, thing[1]) and is_number_from(0, thing[2]) and thing[1] != thing[2]


def holds(sealer, history, person):
    """Return what person holds behind history, in the order in which it came to hold it."""
    things, story = _numbered(sealer, history)
    held = {}
    for event in story:
        _go_on(held, event)
    return tuple([things[number] for number in held.get(person, [])])


def heads_told(things):
    """Return the set of all heads in things, old ones too."""
    found = []
    for own in sorted([own for told in tupled(things) for own in heads_of(told)]):
        if not found or found[-1] != own:
            found.append(own)
    return tuple(found)


def parting(sealer, things):
    """Return a stretch and two of things that tell unlike seals of it."""
    found = first_parting(sealer, taken_ones(sealer, things))
    if found is None:
        raise CanNot()
    return found


def is_parting(sealer, thing):
    """Tell whether thing is a stretch with two taken things that part there."""
    if not isinstance(thing, tuple) or len(thing) != 3:
        return False
    stretch, one, other = thing
    if not is_stretch(stretch) or not is_taken(sealer, one) or not is_taken(sealer, other):
        return False
    seals, other_seals = all_told(sealer, one)[0], all_told(sealer, other)[0]
    return stretch in seals and stretch in other_seals and seals[stretch] != other_seals[stretch]


def can_tell(sealer, things):
    """Tell whether two of things part or clash."""
    tellings = [all_told(sealer, told) for told in taken_ones(sealer, things)]
    return parting_among(tellings) is not None or clash_among(sealer, tellings) is not None


def excuse(sealer, things):
    """Return a log of which things alike are true."""
    if can_tell(sealer, things):
        raise CanNot()
    shown = tupled(things)
    size = _greatest_size(shown)
    if size > EXCUSE_SIZE:
        raise TooMuch()
    entries = dict(entries_in(shown))
    return tuple([entries.get(place, "") for place in range(size)])


def is_excuse(sealer, things, thing):
    """Tell whether thing is an excuse for things."""
    if can_tell(sealer, things) or not is_log(thing):
        return False
    shown = tupled(things)
    return len(thing) == _greatest_size(shown) and all(thing[place] == entry for place, entry in entries_in(shown))


def first_told(sealer, history):
    """Return the number of the first event behind which somebody can tell, and the set of those who can."""
    things, story = _numbered(sealer, history)
    quarrels = _quarrels(sealer, things)
    held = {}
    for number, event in enumerate(story):
        _go_on(held, event)
        able = [person for person in sorted(held) if _has_quarrel(_bits(held[person]), quarrels)]
        if able:
            return number, tuple(able)
    return None


def tellers(sealer, history):
    """Return the set of the pairs of persons neither of whom can tell, but who could if they met."""
    things, story = _numbered(sealer, history)
    quarrels = _quarrels(sealer, things)
    held = {}
    for event in story:
        _go_on(held, event)
    bits = {person: _bits(held[person]) for person in held}
    unable = [person for person in sorted(bits) if not _has_quarrel(bits[person], quarrels)]
    pairs = [(one, other) for one in unable for other in unable if one < other]
    return tuple([(one, other) for one, other in pairs if _has_quarrel(bits[one] | bits[other], quarrels)])


def asks(things):
    """Return the set of the pairs (old, head) whose rises, shown too, would lead each head to the greatest one."""
    shown = tupled(things)
    heads = heads_told(shown)
    if not heads:
        return ()
    head = heads[-1]
    if len(heads) > 1 and heads[-2][0] == head[0]:
        raise CanNot()
    rises = [heads_of(told) for told in shown if told[0] == "rise"]
    led = [old for old, newer in rises if newer[0] > old[0]]
    return tuple([(old, head) for old in heads[:-1] if old[0] > 0 and old not in led])


def first_parting(sealer, things):
    """Return a stretch and two of things, all taken, that tell unlike seals of it; None without."""
    found = parting_among([all_told(sealer, told) for told in things])
    if found is None:
        return None
    stretch, one, other = found
    return stretch, things[one], things[other]


def _greatest_size(things):
    """Return the greatest size of a head in things, 0 without."""
    return max([own[0] for told in things for own in heads_of(told)], default=0)


def _numbered(sealer, history):
    """Return the taken things that are shown in history, each once, and its events with their numbers for them.

    For what is shown and not taken, the event has None.
    """
    things, story = [], []
    for event in tupled(history):
        word, one, other = event
        story.append((word, one, _number_of(sealer, things, other) if word == "show" else other))
    return things, story


def _number_of(sealer, things, thing):
    """Return the number of thing in things, behind which it is put if it is taken; None if it is not."""
    if not is_taken(sealer, thing):
        return None
    if thing not in things:
        things.append(thing)
    return things.index(thing)


def _go_on(held, event):
    """Put into held, a dict of the numbers that each person holds, what it is behind event."""
    word, one, other = event
    own = held.setdefault(one, [])
    if word == "meet":
        others = held.setdefault(other, [])
        before = list(own)
        _take(own, others)
        _take(others, before)
    elif other is not None:
        _take(own, [other])


def _take(own, numbers):
    """Put behind own what it has not got of numbers."""
    for number in numbers:
        if number not in own:
            own.append(number)


def _quarrels(sealer, things):
    """Return, for each two of things that part or clash, their bits."""
    return [_bits(pair) for pair in quarrels_among([all_told(sealer, told) for told in things])]


def _bits(numbers):
    """Return the number that has 1s, written by twos, just at the places that numbers tell."""
    return sum([1 << number for number in numbers])


def _has_quarrel(bits, quarrels):
    """Tell whether both of one of quarrels are within bits."""
    return any(bits & both == both for both in quarrels)
