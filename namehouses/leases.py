"""Leases, tuples (house, first, until): what the common book and the houses both ask of them."""

from namehouses.errors import NoLease
from namehouses.shapes import is_below, is_whole

# The places in a lease.
HOUSE = 0
FIRST = 1
UNTIL = 2


def is_lease(shape, thing):
    if not isinstance(thing, tuple) or len(thing) != 3:
        return False
    if not (is_below(thing[HOUSE], shape.houses) and is_whole(thing[FIRST]) and is_whole(thing[UNTIL])):
        return False
    return 0 <= thing[FIRST] < thing[UNTIL] <= shape.moments


def check_lease(shape, thing):
    if not is_lease(shape, thing):
        raise NoLease("no lease of the shape")


def used_of(lease, moment):
    """The last moment of the lease up to the told one, or None where there is none."""
    if moment is None or moment < lease[FIRST]:
        return None
    return min(moment, lease[UNTIL] - 1)
