"""Sets of WAYs, RECIPEs, HALLs and SMALL houses, written as texts and read back."""

from mirrordoors.errors import BadText
from mirrordoors.halls import is_hall
from mirrordoors.rows import is_letter, is_way
from mirrordoors.small import is_small

DIGITS = "0123456789"


def ways_text(ways):
    """The text of a set of WAYs."""
    return ", ".join(sorted(set(ways))) if ways else "-"


def recipe_text(recipe):
    """The text of a RECIPE."""
    if isinstance(recipe, str):
        return recipe
    one, other = recipe
    return "(" + recipe_text(one) + " in " + recipe_text(other) + ")"


def hall_text(hall):
    """The text of a HALL."""
    points, sheets = hall
    return "; ".join([str(points)] + [mirror_text(letter, sheet) for letter, sheet in sheets])


def mirror_text(letter, sheet):
    """The text of a mirror of a HALL."""
    return " ".join([letter] + [f"{low}-{high}" for low, high in sheet])


def small_text(small):
    """The text of a SMALL house."""
    return "; ".join([" ".join([str(there) for there in room]) for room in small])


def ways_read(text):
    """The set of WAYs with this text; raises BadText()."""
    if text == "-":
        return ()
    ways = text.split(", ")
    if not all([is_way(way) for way in ways]) or ways != sorted(set(ways)):
        raise BadText()
    return tuple(ways)


def recipe_read(text):
    """The RECIPE with this text; raises BadText()."""
    if "+" in text:
        raise BadText()
    parts = []
    # With one sign for the word between two RECIPEs, each sign is a part by itself.
    for sign in text.replace(" in ", "+"):
        parts.append(sign)
        if sign == ")":
            pair = pair_of(parts[-5:])
            del parts[-5:]
            parts.append(pair)
    if len(parts) != 1 or not is_part(parts[0]):
        raise BadText()
    return parts[0]


def pair_of(parts):
    """The pair of the RECIPEs between these signs; raises BadText() if it is none."""
    if len(parts) != 5 or parts[0] != "(" or parts[2] != "+":
        raise BadText()
    if not is_part(parts[1]) or not is_part(parts[3]):
        raise BadText()
    return (parts[1], parts[3])


def is_part(part):
    """Whether this is a RECIPE: a pair that was made of two, or a letter."""
    return isinstance(part, tuple) or is_letter(part)


def hall_read(text):
    """The HALL with this text; raises BadText()."""
    first, *rest = text.split("; ")
    hall = (number_read(first), tuple([mirror_read(part) for part in rest]))
    if not is_hall(hall):
        raise BadText()
    return hall


def mirror_read(text):
    """The letter and what it exchanges, as far as one text tells it; raises BadText()."""
    letter, *pairs = text.split(" ")
    return (letter, tuple([numbers_read(pair, "-") for pair in pairs]))


def numbers_read(text, sign):
    """The tuple of the numbers with this sign between two; raises BadText()."""
    return tuple([number_read(word) for word in text.split(sign)])


def number_read(word):
    """The number that is written so, without needless zeros; raises BadText()."""
    if word == "" or word.strip(DIGITS) != "":
        raise BadText()
    if word.startswith("0") and word != "0":
        raise BadText()
    return int(word)


def small_read(text):
    """The SMALL house with this text; raises BadText()."""
    small = tuple([numbers_read(room, " ") for room in text.split("; ")])
    if not is_small(small):
        raise BadText()
    return small
