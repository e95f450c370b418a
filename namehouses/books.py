"""Books of names: lists of tuples (holder, name)."""

from namehouses.common import is_holder
from namehouses.errors import NoName
from namehouses.shapes import is_name


def is_entry(shape, thing):
    if not isinstance(thing, tuple) or len(thing) != 2:
        return False
    return is_holder(thing[0]) and is_name(shape, thing[1])


def check_book(shape, thing):
    if not isinstance(thing, list) or not all([is_entry(shape, entry) for entry in thing]):
        raise NoName("no list of holders and names of the shape")
