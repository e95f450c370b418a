import unittest

from namehouses import errors
from namehouses.errors import Backward, HouseError, NoText, Wait

PLAIN = [
    "NoShape", "NoName", "NoClock", "NoTime", "NoHolder", "NoLease", "Ended",
    "TooMany", "Empty", "NoNote", "Fallen", "NoRow",
]
WITH_FIELD = {"NoText": "line", "Wait": "by", "Backward": "now"}


def refusals():
    return [getattr(errors, word) for word in PLAIN + list(WITH_FIELD)]


class TestErrors(unittest.TestCase):
    def test_house_error_stands_under_value_error(self):
        self.assertEqual(HouseError.__bases__, (ValueError,))

    def test_each_stands_straight_under_house_error(self):
        for refusal in refusals():
            self.assertEqual(refusal.__bases__, (HouseError,), refusal)

    def test_none_stands_under_another(self):
        for one in refusals():
            for other in refusals():
                self.assertEqual(issubclass(one, other), one is other, (one, other))

    def test_those_without_fields_are_made_of_a_text(self):
        self.assertEqual(str(HouseError("some words")), "some words")
        for word in PLAIN:
            error = getattr(errors, word)("some words")
            self.assertEqual(str(error), "some words")
            self.assertEqual(vars(error), {})

    def test_fields(self):
        for number in [0, 1, 17, -5, 10 ** 40 - 1, -(10 ** 40) + 1]:
            self.assertEqual(NoText(number).line, number)
            self.assertEqual(Wait(number).by, number)
            self.assertEqual(Backward(number).now, number)

    def test_just_these_fields(self):
        for word, field in WITH_FIELD.items():
            self.assertEqual(vars(getattr(errors, word)(3)), {field: 3})

    def test_each_is_taken_by_its_own_name_and_as_house_error(self):
        for word in PLAIN + list(WITH_FIELD):
            refusal = getattr(errors, word)
            for taken in [refusal, HouseError, ValueError]:
                with self.assertRaises(taken):
                    raise refusal(0)
