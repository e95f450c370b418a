"""Names, and stretches of names, written as texts and read back."""

from namehouses.errors import NoName, NoText
from namehouses.shapes import check_name, is_name, names_in
from namehouses.words import is_word, length_for, number_of, word_of

BETWEEN = ".."


def width(shape):
    return length_for(names_in(shape))


def show_name(shape, name):
    check_name(shape, name)
    return word_of(name, width(shape))


def read_name(shape, text):
    if not is_word(text, width(shape)):
        raise NoText(0)
    name = number_of(text)
    # A word may have the right length and still write a number behind the last name.
    if not is_name(shape, name):
        raise NoText(0)
    return name


def show_stretch(shape, one, other):
    check_name(shape, one)
    check_name(shape, other)
    if other < one:
        raise NoName("a stretch ends below its begin")
    if one == other:
        return show_name(shape, one)
    return show_name(shape, one) + BETWEEN + show_name(shape, other)


def read_stretch(shape, text):
    if not isinstance(text, str):
        raise NoText(0)
    parts = text.split(BETWEEN)
    if len(parts) > 2:
        raise NoText(0)
    names = [read_name(shape, part) for part in parts]
    # Both the same would be written as one text alone, so only a rise is read here.
    if len(names) == 2 and names[0] >= names[1]:
        raise NoText(0)
    return (names[0], names[-1])
