"""What lies between two doors or two rooms, and the looks that lead from door to door."""

from mirrordoors.looks import farther, seen_along
from mirrordoors.makers import door_folded, makers
from mirrordoors.rooms import makers_between
from mirrordoors.rows import begins, doors_on, is_way, joined, path, rooms_of


def mirror_between(one, other):
    """The WAY in which the door one is seen at the door other; None if there is none."""
    doors = doors_from(one, other)
    letters = [door[-1] for door in doors]
    # Turned over, the house lays the doors between onto themselves, the last one first.
    return doors[len(doors) // 2] if letters == letters[::-1] else None


def is_between(one, other, thing):
    """Whether thing is the WAY in which the door one is seen at the door other."""
    return is_way(thing) and thing == mirror_between(one, other)


def doors_from(one, other):
    """The tuple of the doors from the door one to the door other, both of these with them."""
    # It begins in the room of one that is farther from other, and ends in that of other that is
    # farther from one: the nearer one to "" only if the way on leads through the farther one.
    start = rooms_of(one)[0] if begins(one, other) else one
    end = rooms_of(other)[0] if begins(other, one) and one != other else other
    return doors_on(start, end)


def can_become(one, other):
    """Whether there are WAYs in which one, seen in them in turn, is other."""
    return one[-1] == other[-1]


def middle(one, other):
    """What lies in the midst of the way between two rooms: ("room", ROW) or ("door", WAY)."""
    letters = path(one, other)
    half = len(letters) // 2
    room = joined(one, letters[:half])
    if len(letters) == 2 * half:
        return ("room", room)
    return ("door", farther(room, joined(one, letters[:half + 1])))


def pace(one, other):
    """The least number of doors by which turning over at one, then at other, moves a room."""
    return 2 * len(doors_from(one, other)) - 2


def looks_within(ways, one, other):
    """The shortest tuple of makers in which one, seen in them in turn, is other, or None."""
    made = makers(ways)
    return makers_between(door_folded(made, one), door_folded(made, other))


def is_looks_within(ways, one, other, thing):
    """Whether thing is a tuple of makers in which one, seen in them in turn, is other."""
    made = makers(ways)
    if not isinstance(thing, tuple) or not all([way in made for way in thing]):
        return False
    return seen_along(one, thing) == other


def led_within(ways, one, other):
    """Whether there are makers in which one, seen in them in turn, is other."""
    return looks_within(ways, one, other) is not None
