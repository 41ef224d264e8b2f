"""The renamings that leave a square as it is, and how many squares are alike to it."""

from latinclose.plain import leading
from latinclose.renamings import behind, undone


def own(square):
    # To the plain form by any way that leads there, and back by always the same one.
    ways = leading(square)[1]
    back = undone(ways[0])
    return sorted([behind(way, back) for way in ways])


def product_to(n):
    product = 1
    for number in range(1, n + 1):
        product *= number
    return product


def alike_many(square):
    return product_to(len(square)) ** 3 // len(own(square))
