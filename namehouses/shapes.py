"""Shapes, and the names that a shape has.

The words of a refusal never show what was refused: it may be of any kind, and Python
won't write out every number.
"""

from namehouses.errors import NoName, NoShape


def is_whole(thing):
    # Python counts True and False among the ints; here they are no numbers.
    return isinstance(thing, int) and not isinstance(thing, bool)


def is_size(thing):
    return is_whole(thing) and thing >= 1


def is_from_nought(thing):
    return is_whole(thing) and thing >= 0


def is_below(thing, bound):
    return is_whole(thing) and 0 <= thing < bound


class Shape:
    def __init__(self, moments, houses, counts):
        if not (is_size(moments) and is_size(houses) and is_size(counts)):
            raise NoShape("a shape has three whole numbers from 1 on")
        self.moments = moments
        self.houses = houses
        self.counts = counts


def names_in(shape):
    return shape.moments * shape.houses * shape.counts


def is_name(shape, thing):
    return is_below(thing, names_in(shape))


def check_name(shape, thing):
    if not is_name(shape, thing):
        raise NoName("no name of the shape")


def check_part(thing, bound):
    if not is_below(thing, bound):
        raise NoName("no moment, house or count of the shape")


def name_of(shape, moment, house, count):
    check_part(moment, shape.moments)
    check_part(house, shape.houses)
    check_part(count, shape.counts)
    return (moment * shape.houses + house) * shape.counts + count


def parts_of(shape, name):
    check_name(shape, name)
    count = name % shape.counts
    above = name // shape.counts
    return (above // shape.houses, above % shape.houses, count)


def names_of(shape, moment):
    first = name_of(shape, moment, 0, 0)
    last = name_of(shape, moment, shape.houses - 1, shape.counts - 1)
    return (first, last)
