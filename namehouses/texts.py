"""Rows of a world, clocks and books of names, written as texts and read back: just what can be written is read."""

from namehouses.books import check_book
from namehouses.clocks import READING, RUNS, TIME, Clock, are_turns
from namehouses.common import is_holder
from namehouses.errors import NoText
from namehouses.rows import has_form
from namehouses.wording import read_name, show_name

BLANK = " "
BETWEEN_TURNS = ", "
BETWEEN_LINES = "\n"
NO_HOUSE = "any"
RUNNING = "runs"
STANDING = "stands"

FIGURES = "0123456789"
MOST_FIGURES = 40


def is_number(word):
    figures = word[1:] if word.startswith("-") else word
    if not 1 <= len(figures) <= MOST_FIGURES or not all([figure in FIGURES for figure in figures]):
        return False
    return figures[0] != "0" or word == "0"


def check_text(thing):
    if not isinstance(thing, str):
        raise NoText(0)


def read_number(word):
    if not is_number(word):
        raise NoText(0)
    return int(word)


def show_row(row):
    return BLANK.join([NO_HOUSE if part is None else str(part) for part in row])


def read_row(text):
    check_text(text)
    words = text.split(BLANK)
    if not has_form(words) or not is_holder(words[2]):
        raise NoText(0)
    return tuple([words[0], read_number(words[1]), words[2]] + read_rest(words))


def read_rest(words):
    """What stands behind the holder."""
    if words[0] == "lease" and words[3] == NO_HOUSE:
        return [None, read_number(words[4])]
    return [read_number(word) for word in words[3:]]


def show_turn(turn):
    return BLANK.join([str(turn[TIME]), str(turn[READING]), RUNNING if turn[RUNS] else STANDING])


def show_clock(clock):
    return BETWEEN_TURNS.join([str(clock.start)] + [show_turn(turn) for turn in clock.turns])


def read_turn(text):
    words = text.split(BLANK)
    if len(words) != 3 or words[2] not in (RUNNING, STANDING):
        raise NoText(0)
    return (read_number(words[0]), read_number(words[1]), words[2] == RUNNING)


def read_clock(text):
    check_text(text)
    parts = text.split(BETWEEN_TURNS)
    start = read_number(parts[0])
    turns = [read_turn(part) for part in parts[1:]]
    # Of turns whose times don't rise there is no clock that could have been written.
    if not are_turns(turns):
        raise NoText(0)
    return Clock(start, turns)


def show_book(shape, book):
    check_book(shape, book)
    return BETWEEN_LINES.join([entry[0] + BLANK + show_name(shape, entry[1]) for entry in book])


def read_entry(shape, text, line):
    words = text.split(BLANK)
    if len(words) != 2 or not is_holder(words[0]):
        raise NoText(line)
    try:
        return (words[0], read_name(shape, words[1]))
    except NoText:
        # A name's text knows of no line but its own.
        raise NoText(line) from None


def read_book(shape, text):
    check_text(text)
    if text == "":
        return []
    lines = text.split(BETWEEN_LINES)
    return [read_entry(shape, lines[line], line) for line in range(len(lines))]
