"""What several tests use: lists for tuples, values of all kinds, and calls in all their ways."""

import copy
import inspect


def listed(value):
    """Return value with a list for each tuple in it, at any depth."""
    if isinstance(value, (list, tuple)):
        return [listed(part) for part in value]
    return value


def mixed(value):
    """Return value with lists and tuples in turn, level by level, the outermost a tuple."""
    if isinstance(value, (list, tuple)):
        return tuple(listed_once(part) for part in value)
    return value


def listed_once(value):
    """Return value as a list whose parts are mixed."""
    if isinstance(value, (list, tuple)):
        return [mixed(part) for part in value]
    return value


def nested(value, levels, kind=tuple):
    """Return value within so many tuples or lists of one part."""
    for _ in range(levels):
        value = kind((value,))
    return value


def odd_values():
    """Return values of all kinds that a thing may have, hardly one of them as it is stated anywhere."""
    small = [0, 1, -1, 2, 255, 256, 10 ** 9, 10 ** 5000, -10 ** 5000, True, False, None,
             "", "a", "0", "none", "leaf", "node", "sha", "whole", "weak", "a" * 200, "a" * 201, "b" * 100000,
             "0" * 64, "0" * 63, "A" * 64, "\n", "\x1f", "\x7f", "\u20ac", (), []]
    pairs = [(one, other) for one in ("leaf", "node", "weak", 1, None) for other in small]
    triples = [(word, one, one) for word in ("node", "weak", "leaf") for one in small]
    flat = small + [(one,) for one in small] + [[one] for one in small] + pairs + triples
    deep = [nested(one, levels, kind) for one in (0, "a", ("none",), True, None)
            for levels in (99, 100) for kind in (tuple, list)]
    wide = [(0,) * 100000, [0] * 100000, ("a",) * 100000, ((),) * 1000]
    return flat + deep + wide + [listed(one) for one in pairs + triples]


def check_call(case, function, *values):
    """Call function in all ways that the document lets a caller; return the result.

    By position and by name, with tuples, lists and both in turn, twice each: the
    results are equal, and the arguments are as they were.
    """
    wanted = function(*values)
    names = list(inspect.signature(function).parameters)
    for shape in (lambda one: one, listed, mixed, listed_once):
        given = [shape(one) for one in values]
        before = copy.deepcopy(given)
        for _ in range(2):
            case.assertEqual(repr(function(*given)), repr(wanted))
            case.assertEqual(repr(function(**dict(zip(names, given)))), repr(wanted))
        case.assertEqual(repr(given), repr(before))
    return wanted


def check_thing(case, function, thing, wanted, *first):
    """Check that function tells wanted of thing, as True or False, and leaves it as it was."""
    before = copy.deepcopy(thing)
    told = function(*first, thing)
    case.assertIs(told, wanted, (function.__name__, first, short(thing)))
    case.assertIs(function(*[listed(one) for one in first], thing=thing), wanted)
    case.assertEqual(thing, before)


def short(thing):
    """Return a beginning of what thing looks like, for messages."""
    try:
        return repr(thing)[:300]
    except ValueError:  # Python writes no numbers of more than 4300 figures.
        return "with a great number"


def variants(thing, pool):
    """Return things like thing, each unlike it in one part at any depth: replaced, left out, doubled or put in."""
    found = list(pool)
    if isinstance(thing, (list, tuple)):
        found += [list(thing), thing[::-1], thing + thing[-1:], (thing,)]
        for at, part in enumerate(thing):
            found.append(thing[:at] + thing[at + 1:])
            found += [thing[:at] + (one,) + thing[at:] for one in pool[:3]]
            found += [thing[:at] + (one,) + thing[at + 1:] for one in variants(part, pool)]
    elif isinstance(thing, int) and not isinstance(thing, bool):
        found += [thing + 1, thing - 1, -thing, str(thing)]
    elif isinstance(thing, str):
        found += [thing + "a", thing[:-1], thing.upper(), thing + "\n"]
    return found
