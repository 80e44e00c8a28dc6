"""SMALL houses: finitely many rooms, whose doors lead on or are mirrors."""

from mirrordoors.counts import need_number
from mirrordoors.errors import Endless, Unfit
from mirrordoors.halls import is_number
from mirrordoors.makers import how_many_led_back
from mirrordoors.rooms import rooms_left
from mirrordoors.rows import LETTERS, need_letters, next_rooms


def is_small(thing):
    """Whether thing is a SMALL house, of however many rooms."""
    if not isinstance(thing, tuple) or not all([is_room(len(thing), room) for room in thing]):
        return False
    if len(set([len(room) for room in thing])) != 1:
        return False
    return lead_back(thing) and len(rooms_ahead(thing, 0)) == len(thing)


def is_room(rooms, thing):
    """Whether thing is a room of a house of so many rooms, as far as it can tell by itself."""
    if not isinstance(thing, tuple) or not 2 <= len(thing) <= len(LETTERS):
        return False
    return all([is_number(number) and 0 <= number < rooms for number in thing])


def lead_back(small):
    """Whether each door of the rooms is a mirror, or one that leads back from beyond."""
    for number, room in enumerate(small):
        # Beyond a mirror is the room itself, and through it one comes back, too.
        if not all([small[there][place] == number for place, there in enumerate(room)]):
            return False
    return True


def rooms_ahead(small, start):
    """For each room to which one comes from start the pair (room, letter) ahead of it.

    They stand in the order of the least ROWs that lead to them from start, for which this is ().
    """
    ahead = {start: ()}
    here = [start]
    while here:
        further = []
        for room in here:
            for letter, there in zip(LETTERS, small[room]):
                if there not in ahead:
                    ahead[there] = (room, letter)
                    further.append(there)
        here = further
    return ahead


def in_order(small):
    """The house with its rooms numbered anew so that it is in order."""
    return numbered_from(small, 0)


def numbered_from(small, start):
    """The house of all rooms to which one comes from start, in order."""
    rooms = list(rooms_ahead(small, start))
    numbers = {room: number for number, room in enumerate(rooms)}
    return tuple([tuple([numbers[there] for there in small[room]]) for room in rooms])


def begun_at(small, room):
    """The house that begins in this room, in order; raises NoNumber(number)."""
    need_number(room, len(small))
    return numbered_from(small, room)


def room_in(small, word):
    """The number of the room to which this WORD leads from room 0; raises NoLetter(letter)."""
    need_letters(LETTERS[:len(small[0])], word)
    room = 0
    for letter in word:
        room = small[room][LETTERS.index(letter)]
    return room


def is_mirror(small, way):
    """Whether the last letter of this WAY is that of a mirror there; raises NoLetter(letter)."""
    return room_in(small, way) == room_in(small, way[:-1])


def how_many_mirrors(small, length):
    """How many WAYs of just so many letters of the house end with a mirror."""
    doors = {number: dict(zip(LETTERS, room)) for number, room in enumerate(small)}
    return how_many_led_back(doors, 0, length)


def least_mirror(small):
    """The WAY with fewest letters that ends with a mirror, of several the least, or None."""
    mirrors = least_mirrors(small)
    return mirrors[0] if mirrors else None


def least_mirrors(small):
    """For each mirror the least ROW to its room, with its letter behind; in order."""
    rows = {}
    mirrors = []
    for room, ahead in rooms_ahead(small, 0).items():
        rows[room] = rows[ahead[0]] + ahead[1] if ahead else ""
        mirrors.extend([rows[room] + letter for letter, there in zip(LETTERS, small[room]) if there == room])
    return mirrors


def small_of(ways, many):
    """The SMALL house, in order, of the rooms that the family leaves; raises Endless()."""
    rooms = rooms_left(ways, many)
    if rooms is None:
        raise Endless()
    numbers = {room: number for number, room in enumerate(rooms)}
    doors = [[numbers.get(there, numbers[room]) for there in next_rooms(room, many)] for room in rooms]
    return tuple([tuple(room) for room in doors])


def is_family(small):
    """Whether the house, in order, is small_of some set of WAYs."""
    # Just if there are no two ways from room to room: so few doors join the rooms to a tree.
    sides = [there for room, doors in enumerate(small) for there in doors if there != room]
    return len(sides) == 2 * (len(small) - 1)


def makers_of(small):
    """The makers of the family of the house, in order; raises Unfit() if there is none."""
    if not is_family(small):
        raise Unfit()
    return tuple(sorted(least_mirrors(small)))


def laid_onto(one, other):
    """A tuple with a room of other for each room of one, or None; raises Unfit()."""
    need_like_letters(one, other)
    laid = {0: 0}
    for room in rooms_ahead(one, 0):
        for there, onto in zip(one[room], other[laid[room]]):
            if laid.setdefault(there, onto) != onto:
                return None
    return tuple([laid[room] for room in range(len(one))])


def need_like_letters(one, other):
    """Raises Unfit() if two houses have not as many letters."""
    if len(one[0]) != len(other[0]):
        raise Unfit()


def both_small(one, other):
    """The SMALL house, in order, in which just what leads back in both leads back; raises Unfit()."""
    need_like_letters(one, other)
    # A pair of rooms is one room, told by one number; (0, 0) is 0.
    pairs = [[here * len(other) + there for here, there in zip(room, other_room)]
             for room in one for other_room in other]
    return numbered_from(pairs, 0)


def alike_elsewhere(one, other):
    """Whether other, in order, is the house that begins in some room of one."""
    return in_order(other) in [numbered_from(one, room) for room in range(len(one))]


def unlike_starts(small):
    """How many unlike houses begin in the rooms of this one."""
    return len(set([numbered_from(small, room) for room in range(len(small))]))
