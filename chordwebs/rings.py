"""Rings [20], [21], [22]: the ends of chords as they lie round a circle."""

from chordwebs.basics import MOST_PLACES, is_number, pairs


def is_ring(thing):
    if not isinstance(thing, tuple) or not 2 <= len(thing) <= 2 * MOST_PLACES:
        return False
    # Kinds go first, for count takes True for 1.
    if not all([is_number(place) for place in thing]):
        return False
    many = len(thing) // 2
    return len(thing) == 2 * many and all([thing.count(place) == 2 for place in range(many)])


def cross(ring, one, other):
    first = ring.index(one)
    second = ring.index(one, first + 1)
    return ring[first:second].count(other) == 1


def web_of(ring):
    many = len(ring) // 2
    return (many, tuple([pair for pair in pairs(many) if cross(ring, pair[0], pair[1])]))


def turned_round(ring, by):
    return ring[by:] + ring[:by]


def mirrored(ring):
    return tuple(reversed(ring))


def least(ring):
    back = mirrored(ring)
    best = ring
    for by in range(len(ring)):
        best = min(best, turned_round(ring, by), turned_round(back, by))
    return best


def same(one, other):
    return least(one) == least(other)


def named_ring(ring, order):
    return tuple([order.index(place) for place in ring])


def without(ring, places):
    others = [place for place in range(len(ring) // 2) if place not in places]
    return tuple([others.index(place) for place in ring if place in others])
