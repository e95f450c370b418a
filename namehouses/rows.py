"""Rows that a world is put: a word, a time, a holder, and what else the word asks for."""

from namehouses.shapes import is_whole

# How many parts a row has, by its word.
LENGTHS = {"lease": 5, "ask": 4, "store": 4, "take": 4, "back": 3, "fall": 3, "bare": 3}

# The places in a row; behind them a lease has a house and a span, and whatever else has four parts how many names.
WORD = 0
TIME = 1
HOLDER = 2
HOUSE = 3
SPAN = 4
MANY = 3


def has_form(parts):
    """Whether the first part is a word that asks for just so many parts."""
    if len(parts) == 0 or not isinstance(parts[WORD], str):
        return False
    return LENGTHS.get(parts[WORD]) == len(parts)


def is_row(thing):
    return isinstance(thing, tuple) and has_form(thing) and is_whole(thing[TIME])
