"""What came of a call, told or refused, so that two of them can be held beside one another."""

from namehouses.errors import HouseError


def outcome(call, *given):
    try:
        return ("told", call(*given))
    except HouseError as refusal:
        return ("refused", type(refusal).__name__, vars(refusal))
