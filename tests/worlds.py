"""What the tests of worlds have in common: right rows and wrong ones, and worlds of chance that their seed settles."""

import unittest

from kinds import FORTY, NO_NUMBERS, NO_TEXTS, TEXTS
from namehouses.clocks import Clock
from namehouses.errors import Backward, TooMany

HOLDERS = ["anna", "bert", "carl", "dora", "emil", "fay", "g", "hubertus"]

# A row of each kind at the time 20.
ROWS = [
    ("lease", 20, "anna", 2, 10), ("ask", 20, "anna", 1), ("store", 20, "anna", 1), ("take", 20, "anna", 1),
    ("back", 20, "anna"), ("fall", 20, "anna"), ("bare", 20, "anna"),
]
WORDS = [row[0] for row in ROWS]


def of_another_form(row):
    """What is no row, though it is much like one."""
    word, time, *rest = row
    found = [row[:-1], row + (1,), row + (None,), list(row), (row,), [row], row[1:], row[:1], row + row, set(row)]
    found += [(other,) + row[1:] for other in [
        word.upper(), word.title(), word + " ", " " + word, word + "s", word + "\n", "", "anna", "who", "world", "book",
        word.encode(), [word], (word,), {word: 1}, None, 0, 20, True, object(), str,
    ]]
    found += [(word, wrong, *rest) for wrong in NO_NUMBERS + [(20,), [20], "20", {20: 20}]]
    found += [(time, word, *rest), tuple(reversed(row)), " ".join(str(part) for part in row), dict(enumerate(row))]
    return found


NO_ROWS = NO_TEXTS + TEXTS + [wrong for row in ROWS for wrong in of_another_form(row)]
# Of another length than the word asks for.
NO_ROWS += [
    (word, 20, "anna", None, 10)[:length]
    for word, right in [(row[0], len(row)) for row in ROWS] for length in range(6) if length != right
]


def now_of(world, holder="anna"):
    """The world's time, or None: asked by a row that is refused in any case."""
    try:
        world.put(("take", -FORTY * 10, holder, 0))
    except Backward as refusal:
        return refusal.now
    except TooMany:
        return None


def seen(world, holder="anna"):
    return (world.book(), world.leases(), now_of(world, holder))


class WorldCase(unittest.TestCase):
    def assert_refused(self, world, refusal, row):
        before = seen(world)
        with self.assertRaises(refusal) as taken:
            world.put(row)
        self.assertEqual(seen(world), before)
        return taken.exception

    def put_all(self, world, rows):
        """What each row told."""
        return [world.put(row) for row in rows]


def clock_by_chance(chance, end, most_turns=6):
    times = sorted(chance.sample(range(-2, end), chance.randint(0, most_turns)))
    turns = [
        (time, time + chance.choice([0, 0, 1, -1, 3, -3, -10, 8]), chance.random() < 0.7) for time in times
    ]
    return Clock(chance.choice([0, 0, 0, 1, -1, 4, -4, 9]), turns)


def makings_by_chance(chance, shape):
    """What a world is made of."""
    clocks = {holder: clock_by_chance(chance, 40) for holder in HOLDERS[:chance.randint(1, len(HOLDERS))]}
    return (shape, chance.choice([0, 0, 1, 2, 5]), chance.choice([0, 1, 3, 10]), clocks)


def row_by_chance(chance, shape, holders, time):
    often = {"lease": 12, "ask": 24, "store": 9, "take": 12, "back": 4, "fall": 3, "bare": 1}
    word = chance.choices(list(often), list(often.values()))[0]
    holder = chance.choice(holders)
    if word == "lease":
        house = chance.randrange(shape.houses) if chance.random() < 0.3 else None
        return (word, time, holder, house, chance.choice([1, 3, 10, 10, 20, 30]))
    if word in ("ask", "store", "take"):
        return (word, time, holder, min(chance.choice([1, 1, 2, 3, 6]), shape.counts))
    return (word, time, holder)


def rows_by_chance(chance, shape, holders, many):
    time = chance.choice([-3, 0, 0, 5])
    for place in range(many):
        # Now and then backward, and now and then of a holder that the world hasn't.
        back = chance.choice([1, 5]) if chance.random() < 0.03 else 0
        yield row_by_chance(chance, shape, holders + (["zeno"] if chance.random() < 0.05 else []), time - back)
        time += chance.choice([0] * 20 + [1, 1, 2])
