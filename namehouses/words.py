"""Whole numbers from 0 on as words of a told length, by the base 32."""

# i, l, o and u are left out, and the signs rise as Python orders them: so words of one length sort as their numbers.
SIGNS = "0123456789abcdefghjkmnpqrstvwxyz"
BASE = 32


def length_for(many):
    length = 1
    room = BASE
    while room < many:
        room = room * BASE
        length = length + 1
    return length


def word_of(number, length):
    signs = []
    rest = number
    for place in range(length):
        signs.append(SIGNS[rest % BASE])
        rest = rest // BASE
    return "".join(reversed(signs))


def is_word(thing, length):
    # The length is asked first: a text far too long is not walked.
    if not isinstance(thing, str) or len(thing) != length:
        return False
    return all([sign in SIGNS for sign in thing])


def number_of(word):
    number = 0
    for sign in word:
        number = number * BASE + SIGNS.index(sign)
    return number
