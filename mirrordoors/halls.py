"""Halls: points that mirrors exchange, and mirrors that are seen in mirrors."""

from mirrordoors.rows import is_letter, joined, need_letters, palindrome


def is_sheet(points, thing):
    """Whether thing is a SHEET for so many points."""
    if not isinstance(thing, tuple) or not all([is_exchange(points, pair) for pair in thing]):
        return False
    ends = [point for pair in thing for point in pair]
    return list(thing) == sorted(thing) and len(set(ends)) == len(ends)


def is_exchange(points, thing):
    """Whether thing is a pair (low, high) of these points, low below high."""
    if not is_pair(thing) or not is_number(thing[0]) or not is_number(thing[1]):
        return False
    return 0 <= thing[0] < thing[1] < points


def is_pair(thing):
    """Whether thing is a tuple of two."""
    return isinstance(thing, tuple) and len(thing) == 2


def is_number(thing):
    """Whether thing is a number: True and False are none."""
    return isinstance(thing, int) and not isinstance(thing, bool)


def is_hall(thing):
    """Whether thing is a HALL, of however many points."""
    if not is_pair(thing) or not is_number(thing[0]) or not isinstance(thing[1], tuple):
        return False
    points, sheets = thing
    if points < 1 or not all([is_mirror_sheet(points, one) for one in sheets]):
        return False
    letters = [one[0] for one in sheets]
    return letters == sorted(set(letters))


def is_mirror_sheet(points, thing):
    """Whether thing is a pair of a letter and a SHEET for so many points."""
    return is_pair(thing) and is_letter(thing[0]) and is_sheet(points, thing[1])


def hall_letters(hall):
    """The string of the letters of the HALL, ascending."""
    return "".join([one[0] for one in hall[1]])


def point_after(hall, word, point):
    """The point to which the WORD leads this one; raises NoLetter(letter)."""
    return led(mirrors_along(hall, word), point)


def mirrors_along(hall, word):
    """The list of the mirrors of the letters of the WORD; raises NoLetter(letter)."""
    mirrors = mirrors_of(hall)
    need_letters(mirrors, word)
    return [mirrors[letter] for letter in word]


def mirrors_of(hall):
    """For each letter of the HALL, ascending, its mirror."""
    return {letter: exchanges(sheet) for letter, sheet in hall[1]}


def exchanges(sheet):
    """A mirror as a dict: where it puts the points that it does not leave where they are."""
    put = {}
    for low, high in sheet:
        put[low] = high
        put[high] = low
    return put


def led(mirrors, point):
    """The point to which these mirrors lead this one, one behind another."""
    for mirror in mirrors:
        point = mirror.get(point, point)
    return point


def row_to(hall, point, to):
    """The shortest ROW, of several the least, that leads point to to; None if there is none."""
    mirrors = mirrors_of(hall)
    rows = {point: ""}
    here = [point]
    while here and to not in rows:
        further = []
        # Lesser ROWs stand ahead in here, so the first ROW that comes to a point is the least.
        for place in here:
            for letter in mirrors:
                there = led([mirrors[letter]], place)
                if there not in rows:
                    rows[there] = rows[place] + letter
                    further.append(there)
        here = further
    return rows.get(to)


def seen_sheet(one, other):
    """The SHEET of the mirror one seen in the mirror other."""
    return sheet_seen_along(one, [exchanges(other)])


def sheet_seen_along(sheet, mirrors):
    """The SHEET of a mirror, seen in the first one of these mirrors, that in the next one."""
    pairs = [(led(mirrors, low), led(mirrors, high)) for low, high in sheet]
    return tuple(sorted([(min(pair), max(pair)) for pair in pairs]))


def sheet_of(hall, way):
    """The SHEET of the mirror of this WAY; raises NoLetter(letter)."""
    mirrors = mirrors_along(hall, way)
    # The mirror of the last letter is seen in that of the letter ahead of it, and so on.
    return sheet_seen_along(letter_sheets(hall)[way[-1]], mirrors[:-1][::-1])


def letter_sheets(hall):
    """For each letter of the HALL, ascending, the SHEET of its mirror."""
    return {letter: as_sheet(sheet) for letter, sheet in hall[1]}


def as_sheet(sheet):
    """The SHEET with tuples, if lists were handed in."""
    return tuple([(low, high) for low, high in sheet])


def sheet_shown(hall, recipe):
    """The SHEET of the mirror that the RECIPE shows; raises NoLetter(letter)."""
    if isinstance(recipe, str):
        return sheet_of(hall, recipe)
    one, other = recipe
    return seen_sheet(sheet_shown(hall, one), sheet_shown(hall, other))


def alike_in(hall, one, other):
    """Whether the mirrors of two WAYs are the same in this HALL; raises NoLetter(letter)."""
    return sheet_of(hall, one) == sheet_of(hall, other)


def parting_hall(one, other):
    """A HALL in which the mirrors of two WAYs are unlike; None if both are one WAY."""
    row = joined(palindrome(one), palindrome(other))
    if row == "":
        return None
    # Along this ROW both mirrors, one behind the other, lead point 0 to the last point; if they
    # were the same, they would lead it back to itself.
    sheets = [(letter, steps_of(row, letter)) for letter in sorted(set(one + other))]
    return (len(row) + 1, tuple(sheets))


def steps_of(row, letter):
    """The SHEET of the steps that have this letter, if the ROW leads from point to next point."""
    return tuple([(place, place + 1) for place, here in enumerate(row) if here == letter])


def is_parting_hall(one, other, thing):
    """Whether thing is a HALL with all letters of two WAYs, in which their mirrors are unlike."""
    if not is_hall(thing):
        return False
    letters = hall_letters(thing)
    if not all([letter in letters for letter in one + other]):
        return False
    return not alike_in(thing, one, other)


def all_sheets(hall):
    """The set of the SHEETs of the mirrors of all WAYs of letters of the HALL."""
    return tuple(sorted(sheets_seen(hall)))


def sheets_seen(hall):
    """For each SHEET of a WAY of the HALL a dict: the SHEET seen in the mirror of each letter."""
    sheets = letter_sheets(hall)
    seen = {}
    here = [sheets[letter] for letter in sheets]
    while here:
        sheet = here.pop()
        if sheet not in seen:
            seen[sheet] = {letter: seen_sheet(sheet, sheets[letter]) for letter in sheets}
            here.extend([seen[sheet][letter] for letter in sheets])
    return seen


def how_many_show(hall, sheet, length):
    """How many WAYs of just so many letters of the HALL have a mirror with this SHEET."""
    seen = sheets_seen(hall)
    sheets = letter_sheets(hall)
    wanted = as_sheet(sheet)
    # WAYs are told apart by their first letter and their SHEET: the letter that comes ahead next
    # is another one.
    counts = {(letter, sheets[letter]): 1 for letter in sheets}
    for _ in range(length - 1):
        longer = {}
        for (first, shown), many in counts.items():
            for letter in sheets:
                if letter != first:
                    key = (letter, seen[shown][letter])
                    longer[key] = longer.get(key, 0) + many
        counts = longer
    return sum([counts.get((letter, wanted), 0) for letter in sheets])


def shortest_way(hall, sheet):
    """The shortest WAY, of several the least, with such a mirror; None if there is none."""
    sheets = letter_sheets(hall)
    # The mirror of a WAY, seen in its letters from the first one on, comes to that of its last
    # letter; so going back from the SHEET, the WAY is found from its first letter on.
    rows = {as_sheet(sheet): ""}
    here = list(rows)
    while here:
        for shown in here:
            for letter in sheets:
                if sheets[letter] == shown:
                    return rows[shown] + letter
        further = []
        for shown in here:
            for letter in sheets:
                there = seen_sheet(shown, sheets[letter])
                if there not in rows:
                    rows[there] = rows[shown] + letter
                    further.append(there)
        here = further
    return None
