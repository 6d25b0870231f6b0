"""Samplers: things drawn with just their chances from even bits."""

from math import lcm

from oneservesall.chances import check_draw
from oneservesall.errors import InvalidBits
from oneservesall.numbers import ONE, by, check_count, is_whole, minus, number, power, times


def sampler(draw):
    """(bits, table): how many bits a round reads, and the things by the numbers that they tell."""
    check_draw(draw)
    many = 1
    for _, a in draw:
        many = lcm(many, a[1])
    table = []
    for thing, a in draw:
        table.extend([thing] * (a[0] * (many // a[1])))
    return (many - 1).bit_length(), tuple(table)


def drawn(sampler, bits):
    """(thing, how many bits were read), or None if the bits do not suffice."""
    if not all(_is_bit(bit) for bit in bits):
        raise InvalidBits(bits)
    width, table = sampler
    read = 0
    while read + width <= len(bits):
        told = _number_of(bits[read:read + width])
        read += width
        if told < len(table):
            return table[told], read
    return None


def mean_bits(sampler):
    """How many bits a sampler reads on the average."""
    width, table = sampler
    # The rounds that it takes on the average are 1 by the chance that a round comes to a thing.
    return number(width * (1 << width), len(table))


def chances_within(sampler, rounds):
    """The list of (thing, chance) that a sampler has come to a thing within so many rounds."""
    check_count(rounds)
    width, table = sampler
    missed = power(minus(ONE, number(len(table), 1 << width)), rounds)
    share = by(minus(ONE, missed), number(len(table), 1))
    counts = {}
    for thing in table:
        counts[thing] = counts.get(thing, 0) + 1
    return [(thing, times(number(count, 1), share)) for thing, count in counts.items()]


def _is_bit(told):
    return is_whole(told) and 0 <= told <= 1


def _number_of(bits):
    """The number that bits tell, the first counting most."""
    found = 0
    for bit in bits:
        found = 2 * found + bit
    return found
