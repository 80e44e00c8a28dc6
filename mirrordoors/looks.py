"""Doors seen in doors, RECIPEs, and what comes of turning the house over."""

from mirrordoors.rows import back, beyond, is_letter, is_way, joined, rooms_of, turned


def seen_in(one, other):
    """The WAY of the door one, seen in the door other."""
    near, far = rooms_of(one)
    return farther(turned(other, near), turned(other, far))


def farther(one, other):
    """Of two rooms with a door between them the one farther from "": the WAY of this door."""
    return max(one, other, key=len)


def seen_along(way, ways):
    """This WAY seen in the first one of ways, that seen in the second one, and so on."""
    for other in ways:
        way = seen_in(way, other)
    return way


def is_recipe(thing):
    """Whether thing is a RECIPE, of however many letters."""
    if isinstance(thing, tuple):
        return len(thing) == 2 and is_recipe(thing[0]) and is_recipe(thing[1])
    return is_letter(thing)


def way_shown(recipe):
    """The WAY of the door that the RECIPE tells."""
    if isinstance(recipe, str):
        return recipe
    one, other = recipe
    return seen_in(way_shown(one), way_shown(other))


def recipe_of(way):
    """A RECIPE that tells this door."""
    recipe = way[-1]
    # A door seen in a letter with which its WAY does not begin has this letter ahead of its WAY.
    for letter in back(way[:-1]):
        recipe = (recipe, letter)
    return recipe


def is_recipe_of(way, thing):
    """Whether thing is a RECIPE that tells this door."""
    return is_recipe(thing) and way_shown(thing) == way


def alike(one, other):
    """Whether two RECIPEs show the same mirror in ALL halls."""
    return way_shown(one) == way_shown(other)


def letters_to(one, other):
    """The shortest ROW of letters by which the door one is seen at the door other, or None."""
    if one[-1] != other[-1]:
        return None
    # The nearer room goes to the nearer room; the one other motion also exchanges the two
    # rooms of the door, and has more letters.
    return joined(one[:-1], back(other[:-1]))


def room_after(room, ways):
    """The room to which this room is led by turning over at each of ways in turn."""
    for way in ways:
        room = turned(way, room)
    return room


def same_motion(one, other):
    """Whether two tuples of WAYs lead each room alike."""
    # A motion is told by the room to which it leads "".
    return room_after("", one) == room_after("", other)


def fewest_turns(row):
    """The least number of doors to turn over at that lead "" to this room."""
    pairs = most_pairs(row)
    return len(row) - 2 * in_lane(pairs[0], len(row), lane_bits(row))


def turns_for(row):
    """A tuple of as few WAYs as can be that lead "" to this room."""
    places = set(left_out(row))
    ways = []
    room = ""
    for place, letter in enumerate(row):
        there = beyond(room, letter)
        if place in places:
            # Turning over at this door does what going through it would have done.
            ways.append(farther(room, there))
        else:
            room = there
    # The door of the last letter that is left out is the one to turn over at first.
    return tuple(ways[::-1])


def is_turns_for(row, thing):
    """Whether thing is a tuple of as few WAYs as can be that lead "" to this room."""
    if not isinstance(thing, tuple) or not all([is_way(way) for way in thing]):
        return False
    return len(thing) == fewest_turns(row) and room_after("", thing) == row


def left_out(row):
    """The places of as few letters as can be, without which the ROW comes to nothing."""
    pairs = most_pairs(row)
    bits = lane_bits(row)
    places = []
    spans = [(0, len(row))]
    while spans:
        start, end = spans.pop()
        if end - start == 1:
            places.append(start)
        elif start < end and row[start] == row[end - 1]:
            # Whatever doors lead "" to the room between, these doors, seen in the letter at the
            # ends, lead it to the room with the ends: so both need as many.
            spans.append((start + 1, end - 1))
        elif start < end:
            mate = first_mate(row, pairs, start, end)
            if mate is None:
                places.append(start)
                spans.append((start + 1, end))
            else:
                spans.append((start + 1, mate))
                spans.append((mate + 1, end))
    return places


def most_pairs(row):
    """For each start a number: its lane end tells how many pairs row[start:end] has at most."""
    # Letters come to nothing just if they can be paired, like with like, no two pairs crossing.
    # The counts for all ends stand side by side in the lanes of one number, so that each sum
    # works on all of them at once.
    bits = lane_bits(row)
    ones = every_lane(bits, len(row) + 1)
    top = bits - 1
    full = ones * ((1 << top) - 1)
    known = {letter: [] for letter in row}
    pairs = [0]
    for start in range(len(row) - 1, -1, -1):
        counts = pairs[-1]
        free = full - counts
        reached = 0
        for mate, more, later in known[row[start]]:
            # The top bit of a lane comes up just if start, paired with the letter at this place,
            # takes nothing away from the pairs of the letters behind start, and so adds one.
            reached |= free + more + in_lane(counts, mate, bits) * later
        behind = (ones >> bits * (start + 1)) << bits * (start + 1)
        known[row[start]].append((start, counts + behind, behind))
        pairs.append(counts + ((reached >> top) & ones))
    return pairs[::-1]


def lane_bits(row):
    """How many bits a lane needs: for a count of pairs, and one bit at its top."""
    return len(row).bit_length() + 1


def every_lane(bits, lanes):
    """The number with 1 in each of so many lanes."""
    ones = 0
    for _ in range(lanes):
        ones = (ones << bits) | 1
    return ones


def in_lane(counts, place, bits):
    """The count in this lane."""
    return (counts >> bits * place) & ((1 << bits) - 1)


def first_mate(row, pairs, start, end):
    """The first place with which start can be paired so that the most pairs are made, or None."""
    bits = lane_bits(row)
    most = in_lane(pairs[start], end, bits)
    if most == in_lane(pairs[start + 1], end, bits):
        return None
    mate = row.find(row[start], start + 1)
    while pairs_with(pairs, bits, start, mate, end) < most:
        mate = row.find(row[start], mate + 1)
    return mate


def pairs_with(pairs, bits, start, mate, end):
    """How many pairs can be made at most if those at start and at mate are one."""
    return 1 + in_lane(pairs[start + 1], mate, bits) + in_lane(pairs[mate + 1], end, bits)
