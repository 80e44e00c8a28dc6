"""Doors and families of doors, counted and numbered without listing them."""

from math import comb

from mirrordoors.errors import Endless, NoNumber, NoWay
from mirrordoors.rooms import how_many_rows, is_whole, power, rooms_behind
from mirrordoors.rows import LETTERS


def how_many_ways(many, length):
    """How many WAYs have just so many letters."""
    return how_many_rows(many, length)


def way_at(many, length, number):
    """The WAY of just so many letters with this number; raises NoNumber(number)."""
    need_number(number, how_many_ways(many, length))
    left = number
    choices = []
    for _ in range(length - 1):
        left, choice = divmod(left, many - 1)
        choices.append(choice)
    way = LETTERS[left]
    for choice in choices[::-1]:
        way = rooms_behind(way, many)[choice]
    return way


def need_number(number, total):
    """Raises NoNumber(number) if it is none of so many numbers from 0 on."""
    if not 0 <= number < total:
        raise NoNumber(number)


def number_of_way(many, way):
    """The number of this WAY among those of as many letters."""
    number = LETTERS.index(way[0])
    for ahead, letter in zip(way, way[1:]):
        # The letter ahead cannot stand here, so those behind it move up by one.
        choice = LETTERS.index(letter) - (1 if letter > ahead else 0)
        number = number * (many - 1) + choice
    return number


def how_many_whole(many, rooms):
    """How many whole families leave just so many rooms."""
    return how_many_fillings(many, many, rooms - 1)


def how_many_fillings(many, doors, rooms):
    """In how many ways so many rooms can be left behind so many doors, together."""
    # Each door is a maker, or a room is left behind it, with many - 1 further doors.
    if doors == 0:
        return 1 if rooms == 0 else 0
    steps = (many - 1) * rooms + doors
    return doors * comb(steps, rooms) // steps


def whole_at(many, rooms, number):
    """The makers of the whole family with this number; raises NoNumber(number)."""
    need_number(number, how_many_whole(many, rooms))
    made = []
    doors = rooms_behind("", many)
    wanted = rooms - 1
    left = number
    while doors:
        way = doors.pop()
        barred = how_many_fillings(many, len(doors), wanted)
        if left < barred:
            made.append(way)
        else:
            left = left - barred
            wanted = wanted - 1
            doors.extend(rooms_behind(way, many))
    return tuple(sorted(made))


def number_of_whole(many, ways):
    """The number of this family among the whole ones with as many rooms; raises Endless()."""
    if not is_whole(ways, many):
        raise Endless()
    barred = barred_in_turn(many, ways)
    doors = many
    wanted = barred.count(False)
    number = 0
    for is_maker in barred:
        doors = doors - 1
        if not is_maker:
            number = number + how_many_fillings(many, doors, wanted)
            wanted = wanted - 1
            doors = doors + many - 1
    return number


def barred_in_turn(many, ways):
    """For each door, in the order in which whole_at comes to them, whether it is a maker."""
    made = {way: True for way in ways}
    barred = []
    doors = rooms_behind("", many)
    while doors:
        way = doors.pop()
        barred.append(way in made)
        if way not in made:
            doors.extend(rooms_behind(way, many))
    return barred


def how_many_sets(many, longest):
    """How many families have no maker of more than longest letters."""
    return power(sets_behind(many, longest)[longest], many)


def sets_behind(many, longest):
    """For each number of letters that can still come: how many sets of makers one door has."""
    # The door itself is the one maker; or it is none, and those behind it have sets each.
    counts = [1]
    for _ in range(longest):
        counts.append(1 + power(counts[-1], many - 1))
    return counts


def set_at(many, longest, number):
    """The makers of the family with this number; raises NoNumber(number)."""
    need_number(number, how_many_sets(many, longest))
    counts = sets_behind(many, longest)
    made = []
    tasks = dealt(rooms_behind("", many), counts[longest], number)
    while tasks:
        way, part = tasks.pop()
        # The highest number of a door says that it is a maker itself.
        if part == counts[longest - len(way) + 1] - 1:
            made.append(way)
        else:
            tasks.extend(dealt(rooms_behind(way, many), counts[longest - len(way)], part))
    return tuple(sorted(made))


def dealt(ways, count, number):
    """The number cut into one below count for each of these WAYs; those with 0 are left out."""
    parts = []
    for way in ways:
        number, part = divmod(number, count)
        if part > 0:
            parts.append((way, part))
    return parts


def number_of_set(many, longest, ways):
    """The number of this family among those of set_at; raises NoWay(way)."""
    for way in sorted(ways):
        if len(way) > longest:
            raise NoWay(way)
    made = {way: True for way in ways}
    return number_behind(many, sets_behind(many, longest), made, "")


def number_behind(many, counts, made, room):
    """The number that tells, for all doors behind this room, which makers they have."""
    left = len(counts) - 1 - len(room)
    number = 0
    if left > 0:
        for way in rooms_behind(room, many)[::-1]:
            part = counts[left] - 1 if way in made else number_behind(many, counts, made, way)
            number = number * counts[left] + part
    return number


def how_many_with(many, sizes):
    """How many families have just so many makers of 1, of 2, of 3 letters, and so on."""
    total = 1
    free = many
    for size in sizes:
        if size > free:
            return 0
        total = total * comb(free, size)
        free = (free - size) * (many - 1)
    return total


def set_with(many, sizes):
    """The makers of one family with just so many of each length; None if there is none."""
    made = []
    # The first WAY of as many letters that no maker begins; all ahead of it are makers, or begun
    # by makers. So each maker stands behind the one before it, also if it is longer.
    free = ""
    for size in sizes:
        free = first_longer(free)
        for _ in range(size):
            if free is None:
                return None
            made.append(free)
            free = way_behind(many, free)
    return tuple(made)


def first_longer(row):
    """The first WAY of one letter more that this ROW begins; None if there is no such ROW."""
    if row is None:
        return None
    return row + ("b" if row.endswith("a") else "a")


def way_behind(many, way):
    """The WAY of as many letters that is next to this one, ascending; None if it is the last."""
    for place in range(len(way) - 1, -1, -1):
        ahead = way[:place]
        higher = LETTERS[LETTERS.index(way[place]) + 1:many]
        choices = [letter for letter in higher if not ahead.endswith(letter)]
        if choices:
            # Behind a letter that was raised, which is no a, the least letters are a b a b ..
            return ahead + choices[0] + ("ab" * len(way))[:len(way) - place - 1]
    return None
