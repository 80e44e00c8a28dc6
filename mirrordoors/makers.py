"""Families of doors, and the makers by which all doors of a family are told."""

from mirrordoors.looks import seen_in
from mirrordoors.rows import is_way


def makers(ways):
    """The set of the makers of the family of these WAYs."""
    made = sorted(set(ways))
    place = first_begun(made)
    while place is not None:
        # The family stays the same: the door that was there is seen in its place in turn.
        shorter = seen_in(made[place], made[place - 1])
        made = sorted(set(made[:place] + [shorter] + made[place + 1:]))
        place = first_begun(made)
    return tuple(made)


def first_begun(ways):
    """The first place of a WAY that another one begins, in an ascending list; None if none is."""
    # All that one WAY begins stand right behind it.
    for place in range(1, len(ways)):
        if ways[place].startswith(ways[place - 1]):
            return place
    return None


def are_makers(thing):
    """Whether thing is a set of WAYs, of however many, none of which begins another one."""
    if not isinstance(thing, tuple) or not all([is_way(way) for way in thing]):
        return False
    return list(thing) == sorted(thing) and first_begun(thing) is None


def is_of(ways, way):
    """Whether this door is of the family of these WAYs."""
    return told_by(makers(ways), way)


def told_by(made, way):
    """Whether this door is of the family with these makers."""
    return door_folded(made, way)[0] in made


def folded(ways, way):
    """The pair (rest, folds): the WAY folded as far as can be, and the makers at which it was."""
    return door_folded(makers(ways), way)


def door_folded(made, way):
    """The pair (rest, folds) of a WAY, by the makers themselves."""
    folds = []
    maker = maker_ahead(made, way)
    while maker is not None and maker != way:
        folds.append(maker)
        way = seen_in(way, maker)
        maker = maker_ahead(made, way)
    return (way, tuple(folds))


def maker_ahead(made, row):
    """The one maker that begins this ROW, or None."""
    for maker in made:
        if row.startswith(maker):
            return maker
    return None


def chain_to(ways, way):
    """The shortest CHAIN that tells this door; None if it is not of the family."""
    made = makers(ways)
    rest, folds = door_folded(made, way)
    if rest not in made:
        return None
    return (rest,) + folds[::-1]


def within(one, other):
    """Whether each door of the family of one is of the family of other."""
    made = makers(other)
    return all([told_by(made, way) for way in one])


def same_family(one, other):
    """Whether two sets of WAYs have the same family."""
    return makers(one) == makers(other)


def together(one, other):
    """The makers of the least family that has all doors of both families."""
    return makers(list(one) + list(other))


def needless(ways):
    """The set of those WAYs that are of the family of all others."""
    once = sorted(set(ways))
    return tuple([way for way in once if is_of(all_but(once, way), way)])


def all_but(ways, way):
    """All of these WAYs but this one."""
    return [other for other in ways if other != way]


def are_free(ways):
    """Whether each row of doors of ways, with no like neighbours, moves some room."""
    return len(makers(ways)) == len(set(ways))


def doors_of(ways, longest):
    """The set of those doors of the family whose WAYs have at most so many letters."""
    stems = stem_doors(makers(ways))
    found = []
    here = [("", "")]
    for _ in range(longest):
        further = []
        for row, room in here:
            for letter, there in doors_at(stems, room):
                if not row.endswith(letter):
                    further.append((row + letter, there))
                    if there == room:
                        found.append(row + letter)
        here = further
    return tuple(sorted(found))


def stem_doors(made):
    """For each room on the way to a maker a dict: the room beyond each of its doors there.

    A maker leads into the room from which one comes to it: the house, turned over there, folds
    onto itself. So a ROW leads through this dict to the room to which it is folded, as long as it
    comes to makers; once it leaves the dict it comes to none. A door is of the family exactly if
    the last letter of its WAY leads from a room to the same room.
    """
    stems = {maker[:end]: {} for maker in made for end in range(len(maker))}
    for room in list(stems):
        if room != "":
            stems[room][room[-1]] = room[:-1]
            stems[room[:-1]][room[-1]] = room
    for maker in made:
        stems[maker[:-1]][maker[-1]] = maker[:-1]
    return stems


def doors_at(stems, room):
    """The pairs (letter, room beyond) of the doors of this room."""
    return list(stems.get(room, {}).items())


def how_many_of(ways, length):
    """How many doors of the family have WAYs of just so many letters."""
    return how_many_led_back(stem_doors(makers(ways)), "", length)


def how_many_led_back(stems, start, length):
    """How many WAYs of just so many letters lead, from start, by their last letter nowhere else."""
    came = {(start, ""): 1}
    for _ in range(length):
        came = gone_on(stems, came)
    return sum([many for (room, letter), many in came.items() if stems[room][letter] == room])


def gone_on(stems, came):
    """How many ROWs of one letter more come to each room by each letter."""
    totals = {}
    for (room, _), many in came.items():
        totals[room] = totals.get(room, 0) + many
    further = {}
    for room, total in totals.items():
        for letter, there in doors_at(stems, room):
            # Those that came by this very letter do not go on with it.
            many = total - came.get((room, letter), 0)
            if many > 0:
                further[(there, letter)] = many
    return further
