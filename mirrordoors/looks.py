"""Doors seen in doors, RECIPEs, and what comes of turning the house over."""

from mirrordoors.rows import back, is_way, is_word, joined, rooms_of, turned


def seen_in(one, other):
    """The WAY of the door one, seen in the door other."""
    near, far = rooms_of(one)
    return farther(turned(other, near), turned(other, far))


def farther(one, other):
    """Of two rooms with a door between them the one farther from "": the WAY of this door."""
    return max(one, other, key=len)


def seen_along(way, ways):
    """This WAY seen in the first one of ways, that seen in the second one, and so on."""
    for other in ways:
        way = seen_in(way, other)
    return way


def is_recipe(thing):
    """Whether thing is a RECIPE, of however many letters."""
    if isinstance(thing, tuple):
        return len(thing) == 2 and is_recipe(thing[0]) and is_recipe(thing[1])
    return is_word(thing) and len(thing) == 1


def way_shown(recipe):
    """The WAY of the door that the RECIPE tells."""
    if isinstance(recipe, str):
        return recipe
    one, other = recipe
    return seen_in(way_shown(one), way_shown(other))


def recipe_of(way):
    """A RECIPE that tells this door."""
    recipe = way[-1]
    # A door seen in a letter with which its WAY does not begin has this letter ahead of its WAY.
    for letter in back(way[:-1]):
        recipe = (recipe, letter)
    return recipe


def is_recipe_of(way, thing):
    """Whether thing is a RECIPE that tells this door."""
    return is_recipe(thing) and way_shown(thing) == way


def alike(one, other):
    """Whether two RECIPEs show the same mirror in ALL halls."""
    return way_shown(one) == way_shown(other)


def letters_to(one, other):
    """The shortest ROW of letters by which the door one is seen at the door other, or None."""
    if one[-1] != other[-1]:
        return None
    # The nearer room goes to the nearer room; the one other motion also exchanges the two
    # rooms of the door, and has more letters.
    return joined(one[:-1], back(other[:-1]))


def room_after(room, ways):
    """The room to which this room is led by turning over at each of ways in turn."""
    for way in ways:
        room = turned(way, room)
    return room


def same_motion(one, other):
    """Whether two tuples of WAYs lead each room alike."""
    # A motion is told by the room to which it leads "".
    return room_after("", one) == room_after("", other)


def fewest_turns(row):
    """The least number of doors to turn over at that lead "" to this room."""
    return len(left_out(row))


def turns_for(row):
    """A tuple of as few WAYs as can be that lead "" to this room."""
    places = left_out(row)
    ways = []
    room = ""
    for place, letter in enumerate(row):
        beyond = joined(room, letter)
        if place in places:
            # Turning over at this door does what going through it would have done.
            ways.append(farther(room, beyond))
        else:
            room = beyond
    # The door of the last letter that is left out is the one to turn over at first.
    return tuple(ways[::-1])


def is_turns_for(row, thing):
    """Whether thing is a tuple of as few WAYs as can be that lead "" to this room."""
    if not isinstance(thing, tuple) or not all([is_way(way) for way in thing]):
        return False
    return len(thing) == fewest_turns(row) and room_after("", thing) == row


def left_out(row):
    """The places of as few letters as can be, without which the ROW comes to nothing."""
    pairs = most_pairs(row)
    places = []
    spans = [(0, len(row))]
    while spans:
        start, end = spans.pop()
        if start == end:
            continue
        if pairs[start][end] == pairs[start + 1][end]:
            places.append(start)
            spans.append((start + 1, end))
        else:
            mate = first_mate(row, pairs, start, end)
            spans.append((start + 1, mate))
            spans.append((mate + 1, end))
    return places


def most_pairs(row):
    """For each start and end: how many pairs of letters of row[start:end] can be made at most."""
    # Letters come to nothing just if they can be paired, like with like, no two pairs crossing.
    size = len(row)
    pairs = [[0] * (size + 1) for _ in range(size + 1)]
    for start in range(size - 1, -1, -1):
        for end in range(start + 1, size + 1):
            made = [pairs_with(pairs, start, mate, end) for mate in mates(row, start, end)]
            pairs[start][end] = max([pairs[start + 1][end]] + made)
    return pairs


def mates(row, start, end):
    """The places behind start, ahead of end, that have the letter of start."""
    return [place for place in range(start + 1, end) if row[place] == row[start]]


def pairs_with(pairs, start, mate, end):
    """How many pairs can be made at most if those at start and at mate are one."""
    return 1 + pairs[start + 1][mate] + pairs[mate + 1][end]


def first_mate(row, pairs, start, end):
    """The first place with which start can be paired so that the most pairs are made."""
    most = pairs[start][end]
    fit = [mate for mate in mates(row, start, end) if pairs_with(pairs, start, mate, end) == most]
    return fit[0]
