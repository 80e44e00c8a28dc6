"""A second way to the answers: from room to room, letter by letter, as the document says it.

Nothing here uses the package.
"""

import itertools

LETTERS = "abcdefgh"

# Values near to WORDs, none of which is one.
NO_WORDS = [
    None, True, False, 0, 1, -1, 10 ** 50, (), [], ("a",), ["a"], ("a", "b"), ["a", "b"],
    "i", "z", "A", "B", "H", "`", "1", " ", "a ", " a", "a b", "a\n", "\na", "ab1c", "abI",
    "abi", "iab", "aib", "\u00e4", "\uff41", "a\u0301", "a,b", "a-b", "-", "None", ("",), [""],
]


def nested(thing, depth, kind):
    """thing with so many brackets around it."""
    for _ in range(depth):
        thing = kind([thing])
    return thing


NESTED = [nested("a", depth, kind) for depth in (1, 2, 11, 12) for kind in (tuple, list)]
NESTED += [nested(("a", "b"), 11, tuple), nested((), 11, tuple), nested([], 11, list)]

# Values that are neither a RECIPE nor a WORD, whatever is asked.
ODD = [thing for thing in NO_WORDS + NESTED if thing != ("a", "b")]


def words(many, longest):
    """All WORDs of the first many letters with at most so many letters."""
    for length in range(longest + 1):
        for letters in itertools.product(LETTERS[:many], repeat=length):
            yield "".join(letters)


def has_neighbours(word):
    return any(word[k] == word[k + 1] for k in range(len(word) - 1))


def rows(many, longest):
    return [word for word in words(many, longest) if not has_neighbours(word)]


def ways(many, longest):
    return rows(many, longest)[1:]


def made_row(seed, length, many):
    """A ROW of so many letters, another one for each seed."""
    state = seed * 7919 + 104729
    row = ""
    while len(row) < length:
        state = (state * 1103515245 + 12345) % 2 ** 31
        letter = LETTERS[(state >> 12) % many]
        if not row.endswith(letter):
            row += letter
    return row


def leave_out_last(word):
    """What is left if the last two like neighbours are left out, again and again."""
    while has_neighbours(word):
        at = max(k for k in range(len(word) - 1) if word[k] == word[k + 1])
        word = word[:at] + word[at + 2:]
    return word


def all_that_is_left(word):
    """All that can be left, in whatever order like neighbours are left out."""
    here, done = {word}, set()
    while here:
        word = here.pop()
        places = [k for k in range(len(word) - 1) if word[k] == word[k + 1]]
        here.update(word[:k] + word[k + 2:] for k in places)
        if not places:
            done.add(word)
    return done


def step(room, letter):
    """The room beyond the door of this letter."""
    return room[:-1] if room.endswith(letter) else room + letter


def walk(room, word):
    for letter in word:
        room = step(room, letter)
    return room


def rooms_on(one, other):
    """The rooms on the shortest way: home from one until other can be reached going out."""
    here, found = one, [one]
    while other[:len(here)] != here:
        here = here[:-1]
        found.append(here)
    while here != other:
        here = other[:len(here) + 1]
        found.append(here)
    return found


def rooms_searched(one, other, many):
    """The same by going through all doors, room after room, until other is found."""
    came, here = {one: None}, [one]
    while other not in came:
        behind = []
        for room in here:
            for letter in LETTERS[:many]:
                if step(room, letter) not in came:
                    came[step(room, letter)] = room
                    behind.append(step(room, letter))
        here = behind
    found = [other]
    while came[found[-1]] is not None:
        found.append(came[found[-1]])
    return found[::-1]


def door_between(one, other):
    """The WAY of the door between two rooms side by side: that of its farther room."""
    assert abs(len(one) - len(other)) == 1
    return one if len(one) > len(other) else other


def turned_by_walking(way, room):
    """Goes from the nearer room of the door to this one, and likewise from the farther room."""
    letters = way[:-1][::-1] + room
    assert walk(way[:-1], letters) == room
    return walk(way, letters)


def seen_by_walking(one, other):
    return door_between(turned_by_walking(other, one[:-1]), turned_by_walking(other, one))


def led_by_walking(room, turns):
    for way in turns:
        room = turned_by_walking(way, room)
    return room


def told_by_walking(recipe):
    """The door that a RECIPE tells: each mirror is the row of letters that it does in turn."""
    def letters(part):
        if isinstance(part, str):
            return part
        one, other = map(letters, part)
        return other + one + other
    row = walk("", letters(recipe))
    return row[:len(row) // 2 + 1]


def recipes(many, letters):
    """All RECIPEs of just so many letters, of the first many ones."""
    if letters == 1:
        return list(LETTERS[:many])
    return [(one, other)
            for ahead in range(1, letters)
            for one in recipes(many, ahead)
            for other in recipes(many, letters - ahead)]


def fewest_by_sets(row):
    """Tries all sets of letters to leave out, the small ones first."""
    for many in range(len(row) + 1):
        for out in itertools.combinations(range(len(row)), many):
            if walk("", [row[k] for k in range(len(row)) if k not in out]) == "":
                return many
    return None


def fewest_by_spans(row):
    """The same for long ROWs: the last letter of a span goes, or has its like ahead of it."""
    known = {}
    for size in range(len(row) + 1):
        for start in range(len(row) - size + 1):
            end = start + size
            if size == 0:
                known[start, end] = 0
                continue
            counts = [known[start, end - 1] + 1]
            for k in range(start, end - 1):
                if row[k] == row[end - 1]:
                    counts.append(known[start, k] + known[k + 1, end - 1])
            known[start, end] = min(counts)
    return known[0, len(row)]


def exchanged(points, pairs):
    """A mirror of a hall: where it puts each point."""
    put = list(range(points))
    for low, high in pairs:
        put[low], put[high] = high, low
    return tuple(put)


def mirror_in_mirror(one, other):
    """Exchanges what the other mirror shows of the points that the first one exchanges."""
    put = list(range(len(one)))
    for point, to in enumerate(one):
        put[other[point]] = other[to]
    return tuple(put)


def shown_in_hall(hall, recipe):
    if isinstance(recipe, str):
        return hall[recipe]
    one, other = recipe
    return mirror_in_mirror(shown_in_hall(hall, one), shown_in_hall(hall, other))


def row_hall(row):
    """A hall in which this ROW leads point 0 on and on, to its last point."""
    points = len(row) + 1
    return {letter: exchanged(points, [(k, k + 1) for k in range(len(row)) if row[k] == letter])
            for letter in LETTERS}


def mixed_hall(seed, points):
    """A hall whose mirrors exchange points here and there."""
    hall = {}
    for place, letter in enumerate(LETTERS):
        order = sorted(range(points), key=lambda k: (k * (seed + 3) + place * 5 + seed * k * k) % 101)
        many = (seed + place) % (points // 2) + 1
        hall[letter] = exchanged(points, [(order[2 * k], order[2 * k + 1]) for k in range(many)])
    return hall
