"""Entries, sealers, seals and matters, and the seal of a matter."""

from leafway.plain import begins, is_number, is_number_from, tupled
from leafway.sha import codes_of, hex_numbers, hex_text, sha


def is_entry(thing):
    """Tell whether thing is a text of at most 200 signs from the blank to ~."""
    return isinstance(thing, str) and len(thing) <= 200 and all(" " <= sign <= "~" for sign in thing)


def is_log(thing):
    """Tell whether thing is a tuple, maybe (), of entries."""
    return isinstance(thing, tuple) and all(is_entry(own) for own in thing)


def is_sealer(thing):
    """Tell whether thing is the published sealer or a made-up one."""
    if thing == ("sha",) or thing == ("whole",):
        return True
    return begins(thing, "weak", 3) and is_number_from(2, thing[1]) and is_number_from(0, thing[2])


def is_seal(sealer, thing):
    """Tell whether thing is a seal by sealer."""
    if sealer[0] == "sha":
        return _is_sha_seal(thing)
    if sealer[0] == "whole":
        return _is_whole_seal(thing)
    return is_number(thing) and 0 <= thing < sealer[1]


def is_matter(sealer, thing):
    """Tell whether thing is a matter by sealer."""
    if _is_node(thing):
        return is_seal(sealer, thing[1]) and is_seal(sealer, thing[2])
    return _is_end(thing)


def seal_of(sealer, matter):
    """Return the seal of matter by sealer."""
    return sealed(sealer, tupled(matter))


def sealed(sealer, matter):
    """Return the seal of a matter that has no lists in it."""
    if sealer[0] == "sha":
        return hex_text(sha(_sha_numbers(matter)))
    if sealer[0] == "whole":
        return matter
    return _weak_seal(sealer[1], sealer[2], matter)


def is_seals(sealer, thing):
    """Tell whether thing is a tuple, maybe (), of seals by sealer."""
    return isinstance(thing, tuple) and all(is_seal(sealer, own) for own in thing)


def _is_node(thing):
    """Tell whether thing has the form of a node, whatever its halves are."""
    return begins(thing, "node", 3)


def _is_end(thing):
    """Tell whether thing is a matter that has no halves."""
    if begins(thing, "leaf", 2):
        return is_entry(thing[1])
    return begins(thing, "none", 1)


def _is_sha_seal(thing):
    """Tell whether thing is a string of 64 of the signs 0 to 9, a to f."""
    return isinstance(thing, str) and len(thing) == 64 and all(sign in "0123456789abcdef" for sign in thing)


def _is_whole_seal(thing):
    """Tell whether thing is a seal by ("whole",), and so a matter, too."""
    waiting = [thing]
    while waiting:
        part = waiting.pop()
        if _is_node(part):
            waiting.append(part[1])
            # Halves are often one object, at each level: to walk through both would double the work each time.
            if part[2] != part[1]:
                waiting.append(part[2])
        elif not _is_end(part):
            return False
    return True


def _sha_numbers(matter):
    """Return the octets of which the SHA-256 is the seal of matter."""
    if matter[0] == "none":
        return ()
    if matter[0] == "leaf":
        return (0,) + codes_of(matter[1])
    return (1,) + hex_numbers(matter[1]) + hex_numbers(matter[2])


def _weak_seal(m, k, matter):
    """Return the number from 0 to m - 1 that seals matter."""
    if matter[0] == "none":
        return k % m
    if matter[0] == "leaf":
        value = k + 1
        for code in codes_of(matter[1]):
            value = (131 * value + code) % m
        return value % m
    return (7 * matter[1] + 3 * matter[2] + k + 2) % m
