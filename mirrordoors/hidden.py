"""What is sure of families that are not known, and hidden ones told back by questions."""

from mirrordoors.between import mirror_between
from mirrordoors.errors import Endless, Unfit
from mirrordoors.makers import is_of, makers, told_by
from mirrordoors.rooms import rooms_behind


def can_be(yes, no):
    """Whether there is a family with all doors of yes and none of no."""
    made = makers(yes)
    return not any([told_by(made, way) for way in no])


def what_is_sure(yes, no, way):
    """Whether the door is of each such family, "yes", of none, "no", or "open"; raises Unfit()."""
    if not can_be(yes, no):
        raise Unfit()
    if is_of(yes, way):
        return "yes"
    return "open" if can_be(list(yes) + [way], no) else "no"


def parting_door(one, other):
    """The least of the doors with fewest letters that are of just one of two families, or None."""
    made, other_made = makers(one), makers(other)
    # Doors seen in doors of both families are of both, so the least one is a maker.
    doors = [way for way in made if not told_by(other_made, way)]
    doors = doors + [way for way in other_made if not told_by(made, way)]
    return min(sorted(doors), key=len) if doors else None


def asks_for(many, rooms):
    """How many doors are asked for if a whole family leaves so many rooms."""
    return (many - 1) * rooms + 1


def found_whole(many, rooms, asker):
    """The makers of a hidden whole family that leaves at most so many rooms; raises Endless()."""
    made = []
    left = 0
    doors = rooms_behind("", many)
    while doors:
        way = doors.pop()
        if asker(way):
            made.append(way)
        else:
            # The room behind the door is left, besides the beginning.
            left += 1
            if left == rooms:
                raise Endless()
            doors.extend(rooms_behind(way, many))
    return tuple(sorted(made))


def found_makers(many, longest, asker):
    """The makers of a hidden family, if they have at most so many letters."""
    made = []
    doors = rooms_behind("", many) if longest > 0 else []
    while doors:
        way = doors.pop()
        if asker(way):
            made.append(way)
        elif len(way) < longest:
            doors.extend(rooms_behind(way, many))
    return tuple(sorted(made))


def found_way(many, length, asker):
    """The hidden WAY of just so many letters."""
    row = ""
    for _ in range(length):
        row = begun_so(rooms_behind(row, many), asker)
    return row


def begun_so(rows, asker):
    """Of these ROWs the one that begins the hidden WAY; the last one needs no question."""
    for row in rows[:-1]:
        if asker(row):
            return row
    return rows[-1]


def found_mirror(asker):
    """The hidden WAY, if asker tells at which WAY another one is seen in it."""
    # Any door will do: there is at most one mirror in which it is seen at a told place.
    return mirror_between("a", asker("a"))
