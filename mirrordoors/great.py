"""GREATs: ROWs of ever so many letters, told by how long two letters go on in turn."""

from mirrordoors.counts import need_number
from mirrordoors.errors import Unfit
from mirrordoors.halls import is_number
from mirrordoors.rows import LETTERS, is_letter

LONGEST_SPELLED = 200


def is_great(thing):
    """Whether thing is a GREAT."""
    if not isinstance(thing, tuple) or not all([is_triple(triple) for triple in thing]):
        return False
    return all([last_letter(one) != other[0] for one, other in zip(thing, thing[1:])])


def is_triple(thing):
    """Whether thing is a triple of two unlike letters and a number from 1 on."""
    if not isinstance(thing, tuple) or len(thing) != 3:
        return False
    if not is_letter(thing[0]) or not is_letter(thing[1]) or thing[0] == thing[1]:
        return False
    return is_number(thing[2]) and thing[2] >= 1


def last_letter(triple):
    """The last letter that the triple tells."""
    first, second, many = triple
    return first if many % 2 == 1 else second


def next_letter(triple):
    """The letter with which the triple would go on."""
    first, second, many = triple
    return second if many % 2 == 1 else first


def great_of(row):
    """The canonical GREAT of a ROW."""
    return canonical([(letter, other_letter(letter), 1) for letter in row])


def other_letter(letter):
    """The least letter other than this one."""
    return "b" if letter == "a" else "a"


def spelled(great):
    """The ROW that the GREAT tells; raises Unfit() if it is too long."""
    if great_length(great) > LONGEST_SPELLED:
        raise Unfit()
    return "".join([((first + second) * many)[:many] for first, second, many in great])


def canonical(great):
    """The canonical GREAT of the same ROW."""
    found = []
    for triple in great:
        rest = tuple(triple)
        if found:
            gone = goes_on(found[-1], rest)
            found[-1] = longer(found[-1], rest, gone)
            rest = without(rest, gone)
        if rest[2] > 0:
            found.append(rest)
    return tuple([with_least(triple) for triple in found])


def goes_on(triple, behind):
    """How many letters of the triple behind it go on with its two letters in turn."""
    first, second, many = behind
    # A triple of a single letter goes on with any letter.
    if triple[2] > 1 and next_letter(triple) != first:
        return 0
    return many if second == last_letter(triple) else 1


def longer(triple, behind, gone):
    """The triple with so many letters of the triple behind it, which go on with its letters."""
    first, second, many = triple
    return (first, behind[0] if many == 1 else second, many + gone)


def without(triple, gone):
    """The triple without so many letters at its beginning; of none left if all are gone."""
    first, second, many = triple
    return (first, second, many - gone) if gone % 2 == 0 else (second, first, many - gone)


def with_least(triple):
    """The triple, if of a single letter, with the least other one as its second."""
    first, second, many = triple
    return (first, other_letter(first) if many == 1 else second, many)


def great_length(great):
    """How many letters the ROW has."""
    return sum([many for _, _, many in great])


def great_letter(great, place):
    """The letter of the ROW at this place; raises NoNumber(number)."""
    need_number(place, great_length(great))
    left = place
    for first, second, many in great:
        if left < many:
            return first if left % 2 == 0 else second
        left = left - many


def great_back(great):
    """The ROW from behind."""
    return canonical([(last_letter(triple), next_letter(triple), triple[2]) for triple in great[::-1]])


def great_joined(one, other):
    """The reduced ROW of one with other behind it."""
    gone = great_common(great_back(one), other)
    ahead = first_letters(one, great_length(one) - gone)
    return canonical(ahead + letters_from(other, gone))


def first_letters(great, length):
    """The triples of the first letters of the ROW, of just so many."""
    found = []
    left = length
    for first, second, many in great:
        if left > 0:
            found.append((first, second, min(many, left)))
        left = left - many
    return found


def letters_from(great, place):
    """The triples of the letters of the ROW from this place on."""
    found = []
    left = place
    for triple in great:
        if left < triple[2]:
            found.append(without(triple, max(left, 0)))
        left = left - triple[2]
    return found


def great_palindrome(great):
    """The palindrome of a WAY."""
    ahead = first_letters(great, great_length(great) - 1)
    return canonical(list(great) + list(great_back(ahead)))


def great_common(one, other):
    """With how many like letters both begin."""
    alike = 0
    mine, theirs = list(one)[::-1], list(other)[::-1]
    while mine and theirs:
        triple, other_triple = mine.pop(), theirs.pop()
        here = alike_ahead(triple, other_triple)
        if here == 0:
            return alike
        alike = alike + here
        if here < triple[2]:
            mine.append(without(triple, here))
        if here < other_triple[2]:
            theirs.append(without(other_triple, here))
    return alike


def alike_ahead(triple, other):
    """With how many like letters two triples begin."""
    if triple[0] != other[0]:
        return 0
    return min(triple[2], other[2]) if triple[1] == other[1] else 1


def great_begins(one, other):
    """Whether the ROW other begins with all of the ROW one."""
    return great_common(one, other) == great_length(one)


def great_distance(one, other):
    """How many doors are gone through from the room one to the room other."""
    return great_length(one) + great_length(other) - 2 * great_common(one, other)


def great_seen_in(one, other):
    """The WAY one seen in the WAY other."""
    row = great_palindrome(other)
    near = great_joined(row, first_letters(one, great_length(one) - 1))
    far = great_joined(row, one)
    return max(near, far, key=great_length)


def great_sums(great, many):
    """The SUMS of a WAY for the first many letters."""
    # The palindrome has each letter twice, at places of like sign, and the last one once.
    sums = {letter: 0 for letter in LETTERS}
    sign = 1
    for first, second, count in great:
        sums[first] = sums[first] + 2 * sign * ((count + 1) // 2)
        sums[second] = sums[second] - 2 * sign * (count // 2)
        sign = sign if count % 2 == 0 else -sign
    last = last_letter(great[-1])
    sums[last] = sums[last] + sign
    return tuple([sums[letter] for letter in LETTERS[:many]])
