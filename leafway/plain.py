"""Plain values: numbers, tuples that begin with a word, and tuples in place of lists."""


def is_number(thing):
    """Tell whether thing is a number: True and False are none."""
    return isinstance(thing, int) and not isinstance(thing, bool)


def is_number_from(least, thing):
    """Tell whether thing is a number that is not below least."""
    return is_number(thing) and thing >= least


def begins(thing, word, many):
    """Tell whether thing is a tuple of so many parts, the first of which is word."""
    return isinstance(thing, tuple) and len(thing) == many and thing[0] == word


def is_pair(thing):
    """Tell whether thing is a tuple of two."""
    return isinstance(thing, tuple) and len(thing) == 2


def is_stretch(thing):
    """Tell whether thing is a stretch: a pair of numbers from 0, the first below the second."""
    return is_pair(thing) and is_number_from(0, thing[0]) and is_number(thing[1]) and thing[0] < thing[1]


def number_in(figures, most):
    """Return the number written by figures, at most so many, without a needless 0; None if there is none."""
    if not 1 <= len(figures) <= most or not all(sign in "0123456789" for sign in figures):
        return None
    if figures[0] == "0" and len(figures) > 1:
        return None
    return int(figures)


def tupled(value):
    """Return value with a tuple for each list in it, at any depth."""
    # A list of what is still open instead of recursion: made-up seals may be nested deeply.
    sources, copies = [(value,)], [[]]
    while not copies[0]:
        if len(copies[-1]) < len(sources[-1]):
            _copy_next(sources, copies)
        else:
            sources.pop()
            parts = copies.pop()
            copies[-1].append(tuple(parts))
    return copies[0][0]


def _copy_next(sources, copies):
    """Copy the next part of the innermost source, or open it if it has parts of its own."""
    source, parts = sources[-1], copies[-1]
    part = source[len(parts)]
    if not _has_list(part):
        # Not copied: seals that are one object are compared at once, however great they are.
        parts.append(part)
    elif parts and part == source[len(parts) - 1]:
        # Halves are often one object, at each level: to walk through both would double the work each time.
        parts.append(parts[-1])
    else:
        sources.append(part)
        copies.append([])


def _has_list(value):
    """Tell whether value is a list or has one in it."""
    waiting = [value]
    while waiting:
        part = waiting.pop()
        if isinstance(part, list):
            return True
        if isinstance(part, tuple):
            # As in _copy_next, equal halves are walked through once.
            alike = begins(part, "node", 3) and part[1] == part[2]
            waiting.extend(part[:2] if alike else part)
    return False
