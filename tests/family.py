"""Families of doors by seeing each door in each other one: a second way to the answers.

Nothing here uses the package.
"""

import functools
import itertools

from tests import house


@functools.lru_cache(maxsize=2 ** 18)
def seen(one, other):
    """One door seen in another one: each is the row of letters that its turn does."""
    row = house.walk("", pal(other) + pal(one) + pal(other))
    return row[:len(row) // 2 + 1]


def pal(way):
    return way + way[-2::-1] if len(way) > 1 else way


def doors(ways, longest):
    """All doors of the family that come of seeing, with no WAY ever longer than so many letters.

    Seen in makers, from a maker on, a door comes to each of its family with WAYs longer and longer;
    and to the makers it comes with WAYs shorter and shorter. So none with at most so many letters
    is missed if longest is not less than the letters of ways.
    """
    known, here = set(ways), set(ways)
    while here:
        found = {seen(one, other) for new in here for old in known
                 for one, other in ((new, old), (old, new))}
        here = {way for way in found if len(way) <= longest} - known
        known |= here
    return known


def makers(ways, family=None):
    """The doors of the family whose WAYs no other WAY of it begins."""
    family = family or doors(ways, max(map(len, ways), default=0))
    return tuple(sorted(way for way in family
                        if not any(way[:end] in family for end in range(1, len(way)))))


def free_of_beginnings(ways):
    return not any(one != other and other.startswith(one) for one in ways for other in ways)


def chains(made, longest):
    """All CHAINs of these makers with no like neighbours, the short ones first."""
    for length in range(1, longest + 1):
        for chain in itertools.product(made, repeat=length):
            if all(one != other for one, other in zip(chain, chain[1:])):
                yield chain


def told(chain):
    """The door that a CHAIN tells."""
    way = chain[0]
    for other in chain[1:]:
        way = seen(way, other)
    return way


def some_sets(many, longest, size, step):
    """Each so-manieth set of up to so many WAYs of few letters."""
    ways = house.ways(many, longest)
    sets = [one for count in range(size + 1) for one in itertools.combinations(ways, count)]
    return sets[:1] + sets[1::step]


def made_set(seed, size, longest, many):
    """A set of WAYs, another one for each seed."""
    return tuple(house.made_row(seed * 31 + k, 1 + (seed * 7 + k * 5) % longest, many)
                 for k in range(size))
