"""The published seal: SHA-256 (FIPS 180-4) over numbers, and the hex text of numbers."""

from leafway.errors import CanNot
from leafway.plain import is_number

_DIGITS = "0123456789abcdef"

# The greatest quad: 32 bits, all of them 1.
_ONES = 0xffffffff

# The first 32 binary places of the square roots of the first 8 primes.
_START = (
    0x6a09e667, 0xbb67ae85, 0x3c6ef372, 0xa54ff53a, 0x510e527f, 0x9b05688c, 0x1f83d9ab, 0x5be0cd19,
)

# The first 32 binary places of the cube roots of the first 64 primes.
_STEPS = (
    0x428a2f98, 0x71374491, 0xb5c0fbcf, 0xe9b5dba5, 0x3956c25b, 0x59f111f1, 0x923f82a4, 0xab1c5ed5,
    0xd807aa98, 0x12835b01, 0x243185be, 0x550c7dc3, 0x72be5d74, 0x80deb1fe, 0x9bdc06a7, 0xc19bf174,
    0xe49b69c1, 0xefbe4786, 0x0fc19dc6, 0x240ca1cc, 0x2de92c6f, 0x4a7484aa, 0x5cb0a9dc, 0x76f988da,
    0x983e5152, 0xa831c66d, 0xb00327c8, 0xbf597fc7, 0xc6e00bf3, 0xd5a79147, 0x06ca6351, 0x14292967,
    0x27b70a85, 0x2e1b2138, 0x4d2c6dfc, 0x53380d13, 0x650a7354, 0x766a0abb, 0x81c2c92e, 0x92722c85,
    0xa2bfe8a1, 0xa81a664b, 0xc24b8b70, 0xc76c51a3, 0xd192e819, 0xd6990624, 0xf40e3585, 0x106aa070,
    0x19a4c116, 0x1e376c08, 0x2748774c, 0x34b0bcb5, 0x391c0cb3, 0x4ed8aa4a, 0x5b9cca4f, 0x682e6ff3,
    0x748f82ee, 0x78a5636f, 0x84c87814, 0x8cc70208, 0x90befffa, 0xa4506ceb, 0xbef9a3f7, 0xc67178f2,
)


def is_octets(thing):
    """Tell whether thing is a tuple of numbers from 0 to 255."""
    return isinstance(thing, tuple) and all(is_number(own) and 0 <= own <= 255 for own in thing)


def sha(numbers):
    """Return the 32 octets of the SHA-256 of the octets in numbers."""
    state = _START
    filled = _filled_up(numbers)
    for begin in range(0, len(filled), 64):
        state = _state_behind(state, filled[begin:begin + 64])
    return tuple([octet for quad in state for octet in _octets_of(quad, 4)])


def hex_text(numbers):
    """Return two signs for each octet, sixteens first."""
    return "".join([_DIGITS[own // 16] + _DIGITS[own % 16] for own in numbers])


def hex_numbers(text):
    """Return the octets whose hex text is text."""
    if len(text) % 2 != 0 or not all(sign in _DIGITS for sign in text):
        raise CanNot()
    values = [_DIGITS.index(sign) for sign in text]
    return tuple([16 * values[at] + values[at + 1] for at in range(0, len(values), 2)])


def codes_of(text):
    """Return the codes of the signs of text."""
    return tuple([ord(sign) for sign in text])


def _filled_up(numbers):
    """Return the octets with what is put behind them, so that they make up whole blocks."""
    many = len(numbers)
    return [*numbers, 128] + [0] * ((55 - many) % 64) + _octets_of(8 * many, 8)


def _octets_of(number, many):
    """Return number as so many octets, the greatest first."""
    return [(number >> (8 * place)) & 255 for place in range(many - 1, -1, -1)]


def _state_behind(state, block):
    """Return the state behind a block of 64 octets."""
    a, b, c, d, e, f, g, h = state
    for step, quad in zip(_STEPS, _quads_of(block)):
        one = h + _turns(e, 6, 11, 25) + ((e & f) ^ ((e ^ _ONES) & g)) + step + quad
        two = _turns(a, 2, 13, 22) + ((a & b) ^ (a & c) ^ (b & c))
        a, b, c, d, e, f, g, h = (one + two) & _ONES, a, b, c, (d + one) & _ONES, e, f, g
    behind = (a, b, c, d, e, f, g, h)
    return tuple([(old + new) & _ONES for old, new in zip(state, behind)])


def _quads_of(block):
    """Return the 64 quads that come of a block of 64 octets."""
    quads = [_quad_at(block, at) for at in range(0, 64, 4)]
    for at in range(16, 64):
        y, z = quads[at - 15], quads[at - 2]
        early = quads[at - 16] + (_turns(y, 7, 18, 0) ^ y ^ (y >> 3))
        late = quads[at - 7] + (_turns(z, 17, 19, 0) ^ z ^ (z >> 10))
        quads.append((early + late) & _ONES)
    return quads


def _quad_at(block, at):
    """Return the quad of the four octets from at on."""
    return (block[at] << 24) + (block[at + 1] << 16) + (block[at + 2] << 8) + block[at + 3]


def _turns(quad, one, two, three):
    """Return the xor of quad turned to the right by each of three numbers of places."""
    # With a second copy of the quad ahead of it, a shift brings in the bits that leave it.
    twice = (quad << 32) + quad
    return ((twice >> one) ^ (twice >> two) ^ (twice >> three)) & _ONES
