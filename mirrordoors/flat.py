"""Flat halls: mirrors at numbers in a line or in a round, and the SUMS that tell where."""

from math import comb

from mirrordoors.halls import is_number, is_pair
from mirrordoors.rows import LETTERS, is_letter, is_way, need_letters, palindrome


def sums_of(way, many):
    """The SUMS of a WAY for the first many letters."""
    row = palindrome(way)
    return tuple([row[::2].count(letter) - row[1::2].count(letter) for letter in LETTERS[:many]])


def every_sum(way):
    """The SUMS of a WAY for all letters."""
    return sums_of(way, len(LETTERS))


def alike_flat(one, other):
    """Whether two WAYs have the same mirror in ALL flat halls."""
    return every_sum(one) == every_sum(other)


def alike_round(one, other, points):
    """Whether two WAYs have the same mirror in ALL rounds of so many points."""
    # A mirror is the same if it is half of a round farther on.
    step = points // 2 if points % 2 == 0 else points
    return all([(here - there) % step == 0 for here, there in zip(every_sum(one), every_sum(other))])


def is_places(thing):
    """Whether thing is PLACES: for letters, ascending, the numbers at which their mirrors are."""
    if not isinstance(thing, tuple) or not all([is_place(one) for one in thing]):
        return False
    letters = [letter for letter, _ in thing]
    return letters == sorted(set(letters))


def is_place(thing):
    """Whether thing is a pair of a letter and a number."""
    return is_pair(thing) and is_letter(thing[0]) and is_number(thing[1])


def number_shown(way, places):
    """The number at which the mirror of the WAY is; raises NoLetter(letter)."""
    numbers = numbers_for(places, way)
    return sum([many * numbers.get(letter, 0) for letter, many in zip(LETTERS, every_sum(way))])


def numbers_for(places, word):
    """For each letter of PLACES its number; raises NoLetter(letter) if the WORD has others."""
    numbers = {letter: number for letter, number in places}
    need_letters(numbers, word)
    return numbers


def flat_after(places, word, number):
    """The number to which the WORD leads this one; raises NoLetter(letter)."""
    numbers = numbers_for(places, word)
    for letter in word:
        number = 2 * numbers[letter] - number
    return number


def parting_places(one, other):
    """PLACES with which the mirrors of two WAYs are at unlike numbers; None if there are none."""
    here, there = every_sum(one), every_sum(other)
    unlike = [letter for place, letter in enumerate(LETTERS) if here[place] != there[place]]
    if not unlike:
        return None
    # With all mirrors but one at 0, the sums of this one letter decide.
    letters = sorted(set(one + other))
    return tuple([(letter, 1 if letter == unlike[0] else 0) for letter in letters])


def is_parting_places(one, other, thing):
    """Whether thing is PLACES with which the mirrors of two WAYs are at unlike numbers."""
    if not is_places(thing):
        return False
    letters = [letter for letter, _ in thing]
    if not all([letter in letters for letter in one + other]):
        return False
    return number_shown(one, thing) != number_shown(other, thing)


def way_with(sums):
    """A WAY with these SUMS; None if there is none."""
    if not are_sums(sums):
        return None
    # Each letter stands only at places of its own sign, so no two neighbours are alike.
    adding = halves(sums, 1)
    taking = halves(sums, -1)
    pairs = "".join([one + other for one, other in zip(adding, taking)])
    return pairs + adding[len(taking):] + odd_letters(sums)


def are_sums(sums):
    """Whether these are the SUMS of some WAY."""
    return sum(sums) == 1 and len(odd_letters(sums)) == 1


def odd_letters(sums):
    """The letters whose numbers are odd."""
    return "".join([letter for letter, number in zip(LETTERS, sums) if number % 2 == 1])


def halves(sums, sign):
    """Half of the places of each letter whose number has this sign, without the midst of all."""
    return "".join([letter * (sign * number // 2) for letter, number in zip(LETTERS, sums)])


def is_way_with(sums, thing):
    """Whether thing is a WAY of these letters with these SUMS."""
    if not is_way(thing) or not all([letter in LETTERS[:len(sums)] for letter in thing]):
        return False
    return sums_of(thing, len(sums)) == tuple(sums)


def fewest_letters(sums):
    """How many letters a WAY with these SUMS has at the least; None if there is none."""
    if not are_sums(sums):
        return None
    return (sum([abs(number) for number in sums]) + 1) // 2


def how_many_fewest(sums):
    """How many WAYs with these SUMS have so few letters; 0 if there are none."""
    if not are_sums(sums):
        return 0
    # Just those in which each letter stands only at places of its own sign.
    return how_many_orders(halves(sums, 1)) * how_many_orders(halves(sums, -1))


def how_many_orders(word):
    """In how many orders the letters of the WORD can stand."""
    orders = 1
    placed = 0
    for letter in LETTERS:
        many = word.count(letter)
        placed = placed + many
        orders = orders * comb(placed, many)
    return orders
