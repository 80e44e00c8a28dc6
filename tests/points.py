"""Halls, point by point: a second way to the answers. Nothing here uses the package.

A mirror is a tuple here: at each place stands the point to which it puts this one.
"""

import itertools

from tests import house


def mirrors(hall):
    points, sheets = hall
    return {letter: house.exchanged(points, sheet) for letter, sheet in sheets}


def sheet(mirror):
    return tuple((point, to) for point, to in enumerate(mirror) if point < to)


def hall_of(points, told, letters=house.LETTERS):
    """The HALL with these mirrors, which are told by their letters."""
    return (points, tuple((letter, sheet(told[letter])) for letter in sorted(letters)))


def led(hall, word, point):
    told = mirrors(hall)
    for letter in word:
        point = told[letter][point]
    return point


def mirror_of(told, way):
    """The mirror of a WAY, as the document says it."""
    if len(way) == 1:
        return told[way]
    return house.mirror_in_mirror(mirror_of(told, way[1:]), told[way[0]])


def every_sheet(points):
    """All SHEETs for so many points."""
    here = [()]
    for point in range(points):
        here += [pairs + ((low, point),) for pairs in here for low in range(point)
                 if not any(low in pair for pair in pairs)]
    return sorted({tuple(sorted(pairs)) for pairs in here})


def mixed(seed, points, letters):
    return hall_of(points, house.mixed_hall(seed, points), letters)


def line(row):
    """The HALL in which this ROW leads from point 0 to each next one."""
    return hall_of(len(row) + 1, house.row_hall(row), sorted(set(row)))


def ring(points, letters="ab"):
    """Points in a ring, joined by two letters in turn; an even number of them."""
    told = {letters[0]: house.exchanged(points, [(k, k + 1) for k in range(0, points, 2)]),
            letters[1]: house.exchanged(points, [(k, (k + 1) % points) for k in range(1, points, 2)])}
    return hall_of(points, told, letters)


def letters_of(hall):
    return [letter for letter, _ in hall[1]]


def rows_of(hall, longest):
    """All ROWs of letters of the HALL, the short ones first, as long ones ascending."""
    letters = letters_of(hall)
    return [row for length in range(longest + 1)
            for row in map("".join, itertools.product(letters, repeat=length))
            if not house.has_neighbours(row)]


def shown(hall, longest):
    """For each WAY of letters of the HALL, the short ones first, the SHEET of its mirror."""
    told = mirrors(hall)
    found = {}
    for way in rows_of(hall, longest)[1:]:
        ahead, rest = told[way[0]], found.get(way[1:])
        found[way] = house.mirror_in_mirror(rest, ahead) if rest else ahead
    return {way: sheet(mirror) for way, mirror in found.items()}


SMALL = [mixed(seed, points, letters)
         for seed, points, letters in [(0, 2, "a"), (1, 3, "ab"), (2, 4, "abc"), (3, 5, "ab"),
                                       (4, 6, "abc"), (5, 6, "cdh"), (6, 4, "ag"), (7, 5, "bcd")]]
SMALL += [
    (4, (("a", ((0, 1), (2, 3))), ("b", ((1, 2),)))),
    (1, (("a", ()), ("c", ()))), (1, ()), (6, ()), (3, (("b", ()),)), (2, (("h", ((0, 1),)),)),
    (6, (("a", ((0, 1),)), ("b", ((2, 3),)), ("c", ((4, 5),)))),
    (5, (("a", ((0, 1),)), ("b", ((1, 2),)), ("c", ((2, 3),)), ("d", ((3, 4),)))),
    (4, (("a", ((0, 1),)), ("b", ((0, 1),)), ("c", ()))),
    ring(4), ring(6, "dg"), line("abcab"), line("aba"),
]
