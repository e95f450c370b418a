"""The judge of books: whether some run of houses gives a book of names, and the playing of runs."""

from namehouses.books import check_book
from namehouses.common import Common, is_holder
from namehouses.errors import NoHolder, NoRow, NoShape
from namehouses.house import House
from namehouses.shapes import parts_of

MOST_COUNTS = 20


def is_run_row(thing):
    if not isinstance(thing, tuple) or len(thing) == 0 or not isinstance(thing[0], str):
        return False
    return (thing[0], len(thing)) in (("lease", 5), ("ask", 4))


def are_run_rows(thing):
    return isinstance(thing, list) and all([is_run_row(row) for row in thing])


def forget(note):
    """The keeper of houses that never fall."""
    return None


def house_of(houses, shape, holder):
    if not is_holder(holder):
        raise NoHolder("a holder is a text of one to eight small letters")
    if holder not in houses:
        houses[holder] = House(shape, 0, 0, forget)
    return houses[holder]


def played(shape, rows):
    if not are_run_rows(rows):
        raise NoRow("no list of rows of a run")
    common = Common(shape)
    houses = {}
    told = []
    for row in rows:
        holder = row[1]
        house = house_of(houses, shape, holder)
        if row[0] == "lease":
            house.take_lease(common.let(holder, row[2], row[3], row[4]))
        else:
            told.extend([(holder, name) for name in house.ask(row[2], row[3])])
    return told


def judge(shape, book):
    if shape.counts > MOST_COUNTS:
        raise NoShape("a book is judged of a shape of at most twenty counts")
    check_book(shape, book)
    given = [(row[0], parts_of(shape, row[1])) for row in book]
    for other in range(len(given)):
        for one in range(other):
            if not stand_together(given[one], given[other]):
                return ("wrong", one, other)
    return ("right", run_of(given))


def stand_together(one, other):
    """Of two tuples of a holder and a name's parts, the first given ahead: whether some run gives both."""
    if one[0] == other[0]:
        # The parts of two names are ordered as the names are.
        return one[1] < other[1]
    return one[1][:2] != other[1][:2]


def run_of(given):
    """The rows of a run that gives these, each lease being of one moment, which only one holder needs.

    A holder's names rise, so those of one house and moment lie behind one another, and it is let just once.
    """
    rows = []
    lasts = {}
    for row in given:
        holder = row[0]
        moment = row[1][0]
        house = row[1][1]
        # The counts below this one's are given with it, but for those that are given already.
        many = row[1][2] + 1
        last = lasts.get(holder)
        if last is not None and last[:2] == (moment, house):
            many = many - (last[2] + 1)
        else:
            rows.append(("lease", holder, house, moment, 1))
        rows.append(("ask", holder, moment, many))
        lasts[holder] = row[1]
    return rows
