"""Rooms that a family of doors leaves, and rooms that are folded at its makers."""

from math import gcd

from mirrordoors.errors import NoNumber
from mirrordoors.makers import maker_ahead, makers
from mirrordoors.rows import LETTERS, distance, rooms_of, turned


def is_left(ways, room):
    """Whether the family of these WAYs leaves the room."""
    return maker_ahead(makers(ways), room) is None


def room_folded(ways, room):
    """The pair (rest, folds): the rest of the room, and the makers at which it is folded."""
    return rest_and_folds(makers(ways), room)


def rest_and_folds(made, room):
    """The pair (rest, folds) of a room, by the makers themselves."""
    folds = []
    maker = maker_ahead(made, room)
    while maker is not None:
        folds.append(maker)
        room = turned(maker, room)
        maker = maker_ahead(made, room)
    return (room, tuple(folds))


def same_rest(ways, one, other):
    """Whether two rooms have the same rest."""
    made = makers(ways)
    return rest_and_folds(made, one)[0] == rest_and_folds(made, other)[0]


def turns_to(ways, one, other):
    """The shortest tuple of makers that leads one to other; None if there is none."""
    made = makers(ways)
    return makers_between(rest_and_folds(made, one), rest_and_folds(made, other))


def makers_between(one, other):
    """The shortest tuple of makers from one to other, by the pair (rest, folds) of each, or None.

    It is what folds one, and then what folds other, from behind.
    """
    rest, folds = one
    other_rest, other_folds = other
    if rest != other_rest:
        return None
    # To turn over at one door twice, side by side, is nothing.
    while folds and other_folds and folds[-1] == other_folds[-1]:
        folds = folds[:-1]
        other_folds = other_folds[:-1]
    return folds + other_folds[::-1]


def doors_between(ways, one, other):
    """How many doors of the family are gone through from room one to room other."""
    made = makers(ways)
    folds = rest_and_folds(made, one)[1]
    other_folds = rest_and_folds(made, other)[1]
    # A room is folded once for each door of the family on the way from "", in the order of these
    # doors; at the doors that both ways begin with, both rooms are folded alike.
    return len(folds) + len(other_folds) - 2 * how_many_alike(folds, other_folds)


def how_many_alike(folds, other_folds):
    """With how many like makers both begin."""
    many = 0
    for maker, other_maker in zip(folds, other_folds):
        if maker != other_maker:
            return many
        many += 1
    return many


def steps_out(ways, room):
    """The least number of doors to the first one of the family; None if it has no doors."""
    made = makers(ways)
    if not made:
        return None
    # From its rest, a room is as far from the doors of the family as it was.
    rest = rest_and_folds(made, room)[0]
    return 1 + min([distance(rest, rooms_of(maker)[0]) for maker in made])


def share(way, many):
    """The FRACTION of this WAY among those of as many letters."""
    return (1, how_many_rows(many, len(way)))


def how_many_rows(many, length):
    """How many ROWs of the first many letters have just so many letters."""
    return 1 if length == 0 else many * power(many - 1, length - 1)


def power(number, times):
    """The product of so many times this number."""
    product = 1
    for _ in range(times):
        product = product * number
    return product


def shares(ways, many):
    """The sum of the shares of all makers, a FRACTION."""
    made = makers(ways)
    if not made:
        return (0, 1)
    longest = max([len(maker) for maker in made])
    bottom = how_many_rows(many, longest)
    top = sum([power(many - 1, longest - len(maker)) for maker in made])
    return (top // gcd(top, bottom), bottom // gcd(top, bottom))


def is_whole(ways, many):
    """Whether the family leaves finitely many rooms of the house of so many letters."""
    return shares(ways, many) == (1, 1)


def rooms_left(ways, many):
    """The list of all rooms that the family leaves; None if it is not whole."""
    if not is_whole(ways, many):
        return None
    made = makers(ways)
    found = []
    here = [""]
    while here:
        found.extend(here)
        here = [there for room in here for there in rooms_behind(room, many) if there not in made]
    return found


def rooms_behind(room, many):
    """The rooms of one letter more behind the doors of this one, ascending."""
    return [room + letter for letter in LETTERS[:many] if not room.endswith(letter)]


def how_many_rooms(ways, many):
    """How many rooms the family leaves; None if it is not whole."""
    found = rooms_left(ways, many)
    return None if found is None else len(found)


def how_many_left(ways, many, length):
    """How many rooms of just so many letters the family leaves."""
    return left_behind(makers(ways), many, length, "")


def left_behind(made, many, length, room):
    """How many rooms of just so many letters that this room begins are left."""
    if maker_ahead(made, room) is not None:
        return 0
    if room == "":
        total = how_many_rows(many, length)
    else:
        total = power(many - 1, length - len(room))
    barred = [maker for maker in made if maker.startswith(room) and len(maker) <= length]
    return total - sum([power(many - 1, length - len(maker)) for maker in barred])


def left_at(ways, many, length, number):
    """The room left, of just so many letters, with this number; raises NoNumber(number)."""
    made = makers(ways)
    if not 0 <= number < left_behind(made, many, length, ""):
        raise NoNumber(number)
    room = ""
    ahead = number
    for _ in range(length):
        doors = rooms_behind(room, many)
        counts = [left_behind(made, many, length, there) for there in doors]
        choice = 0
        while ahead >= counts[choice]:
            ahead = ahead - counts[choice]
            choice += 1
        room = doors[choice]
    return room
