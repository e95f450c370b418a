"""The names and arguments that the document's interface tells, each in its module."""

import importlib
import inspect
import unittest

from namehouses.clocks import Clock
from namehouses.common import Common
from namehouses.shapes import Shape

FUNCTIONS = {
    "shapes": ["name_of(shape, moment, house, count)", "parts_of(shape, name)", "names_of(shape, moment)", "is_whole(thing)"],
    "wording": [
        "width(shape)", "show_name(shape, name)", "read_name(shape, text)", "show_stretch(shape, one, other)",
        "read_stretch(shape, text)",
    ],
    "clocks": ["apart(one, other, begin, end)"],
    "common": ["is_holder(thing)"],
    "world": ["back_by(shape, book)", "meeting(shape, ahead, one, other, begin, end)"],
    "judging": ["played(shape, rows)", "judge(shape, book)"],
    "texts": [
        "show_row(row)", "show_clock(clock)", "show_book(shape, book)", "read_row(text)", "read_clock(text)",
        "read_book(shape, text)",
    ],
}
CLASSES = {
    "shapes": {"Shape(moments, houses, counts)": []},
    "clocks": {"Clock(start, turns)": ["reading(self, time)"]},
    "common": {"Common(shape)": [
        "let(self, holder, house, moment, span)", "cut(self, lease, used)", "leases(self)", "holder_of(self, name)",
    ]},
    "house": {"House(shape, ahead, stride, keeper, note=None)": [
        "take_lease(self, lease)", "ask(self, reading, many=1)", "last(self)", "store(self, reading, many=1)",
        "take(self, many=1)", "give_back(self)", "note(self)",
    ]},
    "world": {"World(shape, ahead, stride, clocks)": ["put(self, row)", "book(self)", "leases(self)", "holder_of(self, name)"]},
    "desk": {"Desk()": ["say(self, row)"]},
}


def found(place, form):
    """What stands under the form's name, and the form as it is found there."""
    thing = getattr(place, form.partition("(")[0])
    return thing, thing.__name__ + str(inspect.signature(thing))


class TestInterface(unittest.TestCase):
    def test_functions(self):
        for stem, forms in FUNCTIONS.items():
            module = importlib.import_module("namehouses." + stem)
            for form in forms:
                thing, told = found(module, form)
                self.assertEqual(told, form)
                self.assertEqual(thing.__module__, module.__name__)

    def test_classes(self):
        for stem, classes in CLASSES.items():
            module = importlib.import_module("namehouses." + stem)
            for form, methods in classes.items():
                kind, told = found(module, form)
                self.assertEqual(told, form)
                self.assertEqual(kind.__module__, module.__name__)
                for method in methods:
                    self.assertEqual(found(kind, method)[1], method)

    def test_fields(self):
        self.assertEqual(list(vars(Shape(3, 4, 5)).items()), [("moments", 3), ("houses", 4), ("counts", 5)])
        self.assertEqual(list(vars(Clock(3, [(1, 2, True)])).items()), [("start", 3), ("turns", [(1, 2, True)])])
        shape = Shape(3, 4, 5)
        self.assertIs(Common(shape).shape, shape)
