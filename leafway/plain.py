"""Plain values: numbers, and tuples in place of lists."""


def is_number(thing):
    """Tell whether thing is a number: True and False are none."""
    return isinstance(thing, int) and not isinstance(thing, bool)


def is_number_from(least, thing):
    """Tell whether thing is a number that is not below least."""
    return is_number(thing) and thing >= least


def tupled(value):
    """Return value with a tuple for each list in it, at any depth."""
    # A list of what is still open instead of recursion: made-up seals may be nested deeply.
    sources, copies = [(value,)], [[]]
    while len(copies) > 1 or not copies[0]:
        if len(copies[-1]) < len(sources[-1]):
            _copy_next(sources, copies)
        else:
            sources.pop()
            parts = copies.pop()
            copies[-1].append(tuple(parts))
    return copies[0][0]


def _copy_next(sources, copies):
    """Copy the next part of the innermost source, or open it if it has parts of its own."""
    source, parts = sources[-1], copies[-1]
    part = source[len(parts)]
    if not isinstance(part, (list, tuple)):
        parts.append(part)
    elif _is_second_half(source, parts) and part == source[1]:
        # Halves are often one object, at each level: to walk through both would double the work each time.
        parts.append(parts[1])
    else:
        sources.append(part)
        copies.append([])


def _is_second_half(source, parts):
    """Tell whether the part that comes next is the right half of a node."""
    return len(parts) == 2 and source[0] == "node"
