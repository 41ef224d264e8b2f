"""Squares that are alike, by a renaming, or kin, by roles and a renaming."""

from latinclose.plain import plain
from latinclose.renamings import behind, undone
from latinclose.roles import turned

ALL_ROLES = ((0, 1, 2), (0, 2, 1), (1, 0, 2), (1, 2, 0), (2, 0, 1), (2, 1, 0))


def between(one, other):
    # Both are told with a renaming to their plain form: the one's goes there, the other's is gone back.
    return behind(one[1], undone(other[1])) if one[0] == other[0] else None


def alike(one, other):
    return between(plain(one), plain(other))


def kin(one, other):
    if len(one) != len(other):
        return None
    aim = plain(other)
    for roles in ALL_ROLES:
        renaming = between(plain(turned(one, roles)), aim)
        if renaming is not None:
            return (roles, renaming)
    return None
