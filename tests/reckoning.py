"""Own reckonings, straight from the document's words, beside which the tests put the program's answers."""

import bisect
import hashlib
import itertools


def weak_number(m, k, matter):
    """The seal by ("weak", m, k), reckoned with whole numbers to the end."""
    if matter[0] == "none":
        value = k
    elif matter[0] == "leaf":
        many = len(matter[1])
        value = (k + 1) * 131 ** many + sum(ord(sign) * 131 ** (many - 1 - at) for at, sign in enumerate(matter[1]))
    else:
        value = 7 * matter[1] + 3 * matter[2] + k + 2
    return value - value // m * m


def sha_text(matter):
    """The seal by ("sha",), by Python's own SHA-256."""
    if matter[0] == "none":
        octets = b""
    elif matter[0] == "leaf":
        octets = b"\x00" + matter[1].encode("ascii")
    else:
        octets = b"\x01" + bytes.fromhex(matter[1]) + bytes.fromhex(matter[2])
    return hashlib.sha256(octets).hexdigest()


def own_seal(sealer, matter):
    """The seal of a matter [5]."""
    if sealer[0] == "whole":
        return matter
    return sha_text(matter) if sealer[0] == "sha" else weak_number(sealer[1], sealer[2], matter)


def leaf(sealer, entry):
    return own_seal(sealer, ("leaf", entry))


def node(sealer, left, right):
    return own_seal(sealer, ("node", left, right))


def own_crown(size):
    """The greatest power of 2 below size, found by doubling."""
    power = 1
    while power * 2 < size:
        power *= 2
    return power


def own_root(sealer, log):
    """The root of a log [3], by its own words."""
    if len(log) < 2:
        return own_seal(sealer, ("leaf", log[0]) if log else ("none",))
    c = own_crown(len(log))
    return node(sealer, own_root(sealer, log[:c]), own_root(sealer, log[c:]))


def own_head(sealer, log):
    return len(log), own_root(sealer, log)


def tree_hash(log):
    """The Merkle tree hash of RFC 6962, over octets."""
    if len(log) == 0:
        return hashlib.sha256(b"").digest()
    if len(log) == 1:
        return hashlib.sha256(b"\x00" + log[0].encode("ascii")).digest()
    k = 1 << (len(log) - 1).bit_length() - 1
    return hashlib.sha256(b"\x01" + tree_hash(log[:k]) + tree_hash(log[k:])).digest()


def own_nodes(begin, end):
    """All nodes from begin to end [7]; for small sizes."""
    if end - begin == 1:
        return [(begin, end)]
    middle = begin + own_crown(end - begin)
    return [(begin, end)] + own_nodes(begin, middle) + own_nodes(middle, end)


def own_way(size, place):
    """The neighbours of place, from the entry up, by going down from the whole."""
    begin, end, found = 0, size, []
    while end - begin > 1:
        middle = begin + own_crown(end - begin)
        if place < middle:
            found.insert(0, (middle, end))
            end = middle
        else:
            found.insert(0, (begin, middle))
            begin = middle
    return tuple(found)


def root_up(sealer, size, place, entry, way):
    """The root that comes of a way, from its last seal down; None if it has too few or too many."""
    if size == 1:
        return leaf(sealer, entry) if len(way) == 0 else None
    c = own_crown(size)
    if len(way) == 0:
        return None
    if place < c:
        below = root_up(sealer, c, place, entry, way[:-1])
        return None if below is None else node(sealer, below, way[-1])
    below = root_up(sealer, size - c, place - c, entry, way[:-1])
    return None if below is None else node(sealer, way[-1], below)


def rise_parts(begin, end, old):
    """The last node of old's edge from begin to end, and those aside, from it up."""
    if end == old:
        return (begin, end), ()
    middle = begin + own_crown(end - begin)
    if old <= middle:
        last, aside = rise_parts(begin, middle, old)
        return last, aside + ((middle, end),)
    last, aside = rise_parts(middle, end, old)
    return last, aside + ((begin, middle),)


def own_rise(old, size):
    """The stretches of a rise [8]."""
    last, aside = rise_parts(0, size, old)
    return ((last,) if last[0] != 0 else ()) + aside


def roots_up(sealer, old, size, way):
    """The elder and the newer root that come of a rise from the head old; None if it has too few or too many seals."""
    stretches, way = own_rise(old[0], size), tuple(way)
    if len(way) != len(stretches):
        return None
    last, aside = rise_parts(0, size, old[0])
    if last[0] == 0:
        way = (old[1],) + way
    elder = newer = way[0]
    for (begin, end), seal in zip(aside, way[1:]):
        if end <= old[0]:
            elder, newer = node(sealer, seal, elder), node(sealer, seal, newer)
        else:
            newer = node(sealer, newer, seal)
    return elder, newer


def own_beside(begin, end, places):
    """The stretches from begin to end beside places [9], from the left."""
    held = [place for place in places if begin <= place < end]
    if not held:
        return ((begin, end),)
    if end - begin == 1:
        return ()
    middle = begin + own_crown(end - begin)
    return own_beside(begin, middle, held) + own_beside(middle, end, held)


def root_of_many(sealer, size, entries, way):
    """The root that comes of entries and a way; None if it has too few or too many seals."""
    table, left = dict(entries), list(way)

    def reckoned(begin, end):
        if not any(begin <= place < end for place in table):
            return left.pop(0)
        if end - begin == 1:
            return leaf(sealer, table[begin])
        middle = begin + own_crown(end - begin)
        first = reckoned(begin, middle)
        return node(sealer, first, reckoned(middle, end))

    if len(way) != len(own_beside(0, size, sorted(table))):
        return None
    return reckoned(0, size)


def number_from(least, thing):
    return type(thing) is int and thing >= least


def entry_form(thing):
    return type(thing) is str and len(thing) <= 200 and all(32 <= ord(sign) <= 126 for sign in thing)


def seal_form(sealer, thing):
    """Whether thing is a seal [3]."""
    if sealer[0] == "sha":
        return type(thing) is str and len(thing) == 64 and set(thing) <= set("0123456789abcdef")
    if sealer[0] == "weak":
        return number_from(0, thing) and thing < sealer[1]
    if type(thing) is not tuple:
        return False
    if len(thing) == 3 and thing[0] == "node":
        return seal_form(sealer, thing[1]) and seal_form(sealer, thing[2])
    return thing == ("none",) or (len(thing) == 2 and thing[0] == "leaf" and entry_form(thing[1]))


def way_form(sealer, thing):
    return type(thing) is tuple and all(seal_form(sealer, one) for one in thing)


def head_form(sealer, thing):
    return type(thing) is tuple and len(thing) == 2 and number_from(0, thing[0]) and seal_form(sealer, thing[1])


def told_form(thing, word, many):
    return type(thing) is tuple and len(thing) == many and thing[0] == word


def entry_taken(sealer, thing):
    """Whether thing is a told thing ("entry", ..) that is taken [7]."""
    if not told_form(thing, "entry", 5):
        return False
    _, head, place, entry, way = thing
    form = head_form(sealer, head) and number_from(0, place) and place < head[0] and entry_form(entry)
    return form and way_form(sealer, way) and root_up(sealer, head[0], place, entry, way) == head[1]


def rise_taken(sealer, thing):
    """Whether thing is a told thing ("rise", ..) that is taken [8]."""
    if not told_form(thing, "rise", 4):
        return False
    _, old, head, way = thing
    if not (head_form(sealer, old) and head_form(sealer, head) and way_form(sealer, way)):
        return False
    return 0 < old[0] <= head[0] and roots_up(sealer, old, head[0], way) == (old[1], head[1])


def many_taken(sealer, thing):
    """Whether thing is a told thing ("many", ..) that is taken [9]."""
    if not told_form(thing, "many", 4):
        return False
    _, head, entries, way = thing
    if not (head_form(sealer, head) and way_form(sealer, way) and type(entries) is tuple and len(entries) > 0):
        return False
    for pair in entries:
        if not (type(pair) is tuple and len(pair) == 2 and number_from(0, pair[0]) and entry_form(pair[1])):
            return False
    places = [place for place, _ in entries]
    if places != sorted(set(places)) or places[-1] >= head[0]:
        return False
    return root_of_many(sealer, head[0], entries, way) == head[1]


def all_taken(sealer, thing):
    """Whether thing is a told thing ("all", ..) that is taken [9]."""
    if not told_form(thing, "all", 3) or not head_form(sealer, thing[1]) or type(thing[2]) is not tuple:
        return False
    return all(entry_form(one) for one in thing[2]) and own_head(sealer, thing[2]) == thing[1]


def tops_form(sealer, thing):
    """Whether thing is tops [6]."""
    if type(thing) is not tuple or len(thing) != 2 or not number_from(0, thing[0]) or not way_form(sealer, thing[1]):
        return False
    return len(thing[1]) == bin(thing[0]).count("1")


def sets_below(size):
    """All sets of places below size, but ()."""
    return [places for length in range(1, size + 1) for places in itertools.combinations(range(size), length)]


def told_entry(sealer, log, place):
    """The told thing ("entry", ..) that the document's own words give, under the head of log."""
    way = tuple(own_root(sealer, log[begin:end]) for begin, end in own_way(len(log), place))
    return "entry", own_head(sealer, log), place, log[place], way


def told_rise(sealer, log, old, size):
    """The told thing ("rise", ..) between the heads of the first old and the first size entries."""
    way = tuple(own_root(sealer, log[begin:end]) for begin, end in own_rise(old, size))
    return "rise", own_head(sealer, log[:old]), own_head(sealer, log[:size]), way


def told_many(sealer, log, places):
    """The told thing ("many", ..) under the head of log."""
    way = tuple(own_root(sealer, log[begin:end]) for begin, end in own_beside(0, len(log), places))
    return "many", own_head(sealer, log), tuple((place, log[place]) for place in places), way


def told_all(sealer, log):
    """The told thing ("all", ..) of log."""
    return "all", own_head(sealer, log), log


class GreatLog:
    """A log too great to be told: great stretches in which nothing is looked at are sealed at will, as one."""

    def __init__(self, sealer, edges):
        self.sealer = sealer
        self.edges = sorted(set(edges))
        self.kept = {}

    def seal(self, begin, end):
        if (begin, end) not in self.kept:
            self.kept[(begin, end)] = self.reckoned(begin, end)
        return self.kept[(begin, end)]

    def reckoned(self, begin, end):
        many, behind = end - begin, bisect.bisect_right(self.edges, begin)
        if many & (many - 1) == 0 and not any(edge < end for edge in self.edges[behind:behind + 1]):
            return leaf(self.sealer, str(begin) + " " + str(many))
        middle = begin + own_crown(many)
        return node(self.sealer, self.seal(begin, middle), self.seal(middle, end))

    def seals(self, stretches):
        return tuple(self.seal(begin, end) for begin, end in stretches)

    def head(self, size):
        return size, self.seal(0, size)

    def entry(self, place):
        """The entry at place, where place and the one behind it are edges."""
        return str(place) + " 1"
