"""The desk: it is told rows as texts, and answers each by a text."""

from namehouses.common import is_holder
from namehouses.errors import NoRow, NoText
from namehouses.judging import judge
from namehouses.shapes import Shape, parts_of
from namehouses.texts import read_book, read_clock, read_number, read_row, show_book
from namehouses.wording import read_name, show_name
from namehouses.world import World, back_by

BLANK = " "
BETWEEN_HOLDERS = " ; "
BETWEEN_LEASES = ", "
NEW_WORLD = "world "
JUDGE = "judge\n"
DONE = "ok"
NOTHING = "none"


def words_of(things):
    return BLANK.join([str(thing) for thing in things])


def read_clocks(texts):
    clocks = {}
    for text in texts:
        parts = text.partition(BLANK)
        holder = parts[0]
        if not is_holder(holder) or holder in clocks:
            raise NoText(0)
        clocks[holder] = read_clock(parts[2])
    return clocks


def read_numbers(text, many):
    words = text.split(BLANK)
    if len(words) != many:
        raise NoText(0)
    return [read_number(word) for word in words]


def new_world(text):
    """The world of what stands behind its word."""
    parts = text.split(BETWEEN_HOLDERS)
    # All is read ahead of the making: what isn't written as told is refused ahead of what no world is made of.
    try:
        numbers = read_numbers(parts[0], 5)
        clocks = read_clocks(parts[1:])
    except NoText:
        raise NoRow("no world is written so") from None
    shape = Shape(numbers[0], numbers[1], numbers[2])
    return World(shape, numbers[3], numbers[4], clocks)


def answer_row(world, text):
    try:
        row = read_row(text)
    except NoText:
        raise NoRow("no row is written so") from None
    names = world.put(row)
    if len(names) == 0:
        return DONE
    return words_of([show_name(world.shape, name) for name in names])


def answer_book(world):
    return show_book(world.shape, [(row[1], row[2]) for row in world.book()])


def answer_leases(world):
    return BETWEEN_LEASES.join([words_of(lease) for lease in world.leases()])


def answer_who(world, text):
    holder = world.holder_of(read_name(world.shape, text))
    return NOTHING if holder is None else holder


def answer_tell(world, text):
    return words_of(parts_of(world.shape, read_name(world.shape, text)))


def answer_back(world):
    told = back_by(world.shape, world.book())
    return NOTHING if told is None else words_of(told)


def answer_judge(world, text):
    told = judge(world.shape, read_book(world.shape, text))
    # The rows of a right book's run aren't shown.
    return "right" if told[0] == "right" else words_of(told)


def answer(world, text):
    if text.startswith(JUDGE):
        return answer_judge(world, text[len(JUDGE):])
    if text == "book":
        return answer_book(world)
    if text == "leases":
        return answer_leases(world)
    if text == "back":
        return answer_back(world)
    words = text.split(BLANK)
    if len(words) == 2 and words[1] != "":
        if words[0] == "who":
            return answer_who(world, words[1])
        if words[0] == "tell":
            return answer_tell(world, words[1])
    return answer_row(world, text)


class Desk:
    def __init__(self):
        self.world = None

    def say(self, row):
        if not isinstance(row, str):
            raise NoRow("a row is a text")
        if row.startswith(NEW_WORLD):
            self.world = new_world(row[len(NEW_WORLD):])
            return DONE
        if self.world is None:
            raise NoRow("there is no world yet")
        return answer(self.world, row)
