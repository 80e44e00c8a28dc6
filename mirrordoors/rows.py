"""The endless house: rooms told by their ROWs, doors told by their WAYs."""

from mirrordoors.errors import NoLetter, NoMirror

LETTERS = "abcdefgh"
NEIGHBOURS = ("aa", "bb", "cc", "dd", "ee", "ff", "gg", "hh")


def is_word(thing):
    """Whether thing is a WORD, of however many letters."""
    # If anything is no letter, the outermost such thing stays.
    return isinstance(thing, str) and thing.strip(LETTERS) == ""


def is_letter(thing):
    """Whether thing is a letter."""
    return is_word(thing) and len(thing) == 1


def need_letters(letters, word):
    """Raises NoLetter(letter) for the first letter of the WORD that is none of these."""
    for letter in word:
        if letter not in letters:
            raise NoLetter(letter)


def is_row(thing):
    """Whether thing is a ROW, of however many letters."""
    return is_word(thing) and not any([two in thing for two in NEIGHBOURS])


def is_way(thing):
    """Whether thing is a WAY, of however many letters."""
    return is_row(thing) and thing != ""


def reduced(word):
    """The ROW that is left of a WORD without like letters side by side."""
    left = []
    for letter in word:
        if left and left[-1] == letter:
            left.pop()
        else:
            left.append(letter)
    return "".join(left)


def common(one, other):
    """How many letters the common beginning of two ROWs has."""
    # Halving takes a few comparisons of whole pieces where going letter by letter takes many.
    low, high = 0, min(len(one), len(other))
    while low < high:
        middle = (low + high + 1) // 2
        if one[low:middle] == other[low:middle]:
            low = middle
        else:
            high = middle - 1
    return low


def joined(one, other):
    """The reduced ROW of one with other behind it."""
    # No two neighbours within a ROW are alike, so letters can go only where the two meet.
    gone = common(back(one), other)
    return one[:len(one) - gone] + other[gone:]


def back(row):
    """The ROW from behind."""
    return row[::-1]


def beyond(room, letter):
    """The room beyond the door of this letter in this room."""
    return room[:-1] if room.endswith(letter) else room + letter


def path(one, other):
    """The ROW of the letters on the shortest way from room one to room other."""
    return joined(back(one), other)


def distance(one, other):
    """How many doors are on the shortest way between two rooms."""
    return len(path(one, other))


def doors_on(one, other):
    """The tuple of the WAYs of the doors on the shortest way, in their order."""
    shared = common(one, other)
    homeward = [one[:end] for end in range(len(one), shared, -1)]
    outward = [other[:end] for end in range(shared + 1, len(other) + 1)]
    return tuple(homeward + outward)


def meeting(one, other, third):
    """The one room on the shortest way between each two of three rooms."""
    partings = [
        one[:common(one, other)],
        one[:common(one, third)],
        other[:common(other, third)],
    ]
    # Seen from "", two of the three part first from the third one: these two meet farther out.
    return max(partings, key=len)


def next_rooms(room, many):
    """The tuple of the rooms behind the doors of this room, by their letters."""
    return tuple([beyond(room, letter) for letter in LETTERS[:many]])


def begins(one, other):
    """Whether the ROW one stands at the beginning of the ROW other."""
    return other.startswith(one)


def rooms_of(way):
    """The pair of the nearer and the farther room of this door."""
    return (way[:-1], way)


def palindrome(way):
    """The ROW of the WAY and, behind it, the WAY without its last letter, from behind."""
    return way + back(way[:-1])


def is_palindrome(thing):
    """Whether thing is the palindrome of some WAY."""
    # A ROW that is the same from behind has an odd number of letters:
    # otherwise the two in the midst would be like neighbours.
    return is_way(thing) and thing == back(thing)


def way_of(row):
    """The WAY of which this ROW is the palindrome; raises NoMirror() if there is none."""
    if not is_palindrome(row):
        raise NoMirror()
    return row[:len(row) // 2 + 1]


def turned(way, room):
    """The room to which this room goes if the house is turned over at this door."""
    return joined(palindrome(way), room)
