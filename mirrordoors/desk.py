"""A desk: requests to a gallery, line by line, and the answers to them."""

from mirrordoors.between import mirror_between
from mirrordoors.errors import BadLine, BadText, Known, NothingDone, NoWay
from mirrordoors.gallery import Gallery
from mirrordoors.looks import seen_in, way_shown
from mirrordoors.makers import within
from mirrordoors.rooms import how_many_rooms
from mirrordoors.rows import LETTERS, is_way, path
from mirrordoors.texts import recipe_read, ways_read, ways_text

# What stands behind the word of each request; RECIPE and WAYS are texts with blanks in them.
REQUESTS = {
    "hang": "WAY", "take": "WAY", "look": "WAY", "tidy": "", "undo": "", "ways": "", "makers": "",
    "has": "WAY", "chain": "WAY", "seen": "WAY WAY", "between": "WAY WAY", "path": "ROW ROW",
    "shown": "RECIPE", "rooms": "MANY", "within": "WAYS",
}
DEEDS = ("hang", "take", "look", "tidy", "undo")
MANY = ("2", "3", "4", "5", "6", "7", "8")


def answers(text):
    """The list of the answers, one for each line of the text; raises BadLine(number)."""
    requests = requests_read(text)
    gallery = Gallery()
    return [answer_to(gallery, word, values) for word, values in requests]


def requests_read(text):
    """The list of the pairs (word, values) of all lines; raises BadLine(number)."""
    requests = []
    for number, line in enumerate(text.split("\n") if text else []):
        try:
            requests.append(request_read(line))
        except BadText:
            raise BadLine(number)
    return requests


def request_read(line):
    """The pair (word, values) of a request; raises BadText() if the line is none."""
    word, blank, rest = line.partition(" ")
    if word not in REQUESTS:
        raise BadText()
    kind = REQUESTS[word]
    if kind == "":
        if blank != "":
            raise BadText()
        return (word, [])
    if kind in ("RECIPE", "WAYS"):
        return (word, [value_read(kind, rest)])
    kinds = kind.split(" ")
    parts = rest.split(" ")
    if len(parts) != len(kinds):
        raise BadText()
    return (word, [value_read(one, part) for one, part in zip(kinds, parts)])


def value_read(kind, text):
    """The value of this kind that is written so; raises BadText()."""
    if kind == "RECIPE":
        return recipe_read(text)
    if kind == "WAYS":
        return ways_read(text)
    if kind == "MANY" and text in MANY:
        return int(text)
    if kind == "ROW" and text == "-":
        return ""
    if kind != "MANY" and is_way(text):
        return text
    raise BadText()


def answer_to(gallery, word, values):
    """The answer to one request, which is done to the gallery."""
    if word in DEEDS:
        return answer_to_deed(gallery, word, values)
    if word == "ways":
        return ways_text(gallery.ways)
    if word == "makers":
        return ways_text(gallery.makers)
    if word == "has":
        return yes_or_no(values[0] in gallery)
    if word == "within":
        return yes_or_no(within(gallery.ways, values[0]))
    if word == "chain":
        return " ".join(gallery.chain(values[0]) or ("none",))
    if word == "seen":
        return seen_in(values[0], values[1])
    if word == "between":
        return mirror_between(values[0], values[1]) or "none"
    if word == "path":
        return path(values[0], values[1]) or "-"
    if word == "rooms":
        return rooms_told(gallery.ways, values[0])
    return way_shown(values[0])


def yes_or_no(holds):
    """The answer to whether something holds."""
    return "yes" if holds else "no"


def answer_to_deed(gallery, word, values):
    """The answer to a request that is done, or refused."""
    try:
        do(gallery, word, values)
    except Known:
        return "refused Known"
    except NoWay:
        return "refused NoWay"
    except NothingDone:
        return "refused NothingDone"
    return "done"


def do(gallery, word, values):
    """Does a deed, or undoes the last one; raises what the gallery raises."""
    if word == "hang":
        gallery.hang(values[0])
    elif word == "take":
        gallery.take(values[0])
    elif word == "look":
        gallery.look(values[0])
    elif word == "tidy":
        gallery.tidy()
    else:
        gallery.undo()


def rooms_told(ways, many):
    """How many rooms the family leaves, as an answer."""
    if not all([letter in LETTERS[:many] for way in ways for letter in way]):
        return "refused Unfit"
    rooms = how_many_rooms(ways, many)
    return "endless" if rooms is None else str(rooms)
