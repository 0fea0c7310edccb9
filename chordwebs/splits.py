"""Splits [40] to [44]: sides of a web and their ranks, webs parted at a side, webs and rings put together."""

from chordwebs.basics import MOST_PLACES, are_places, is_rising, refuse_more
from chordwebs.errors import NoSplit
from chordwebs.rings import turned_round
from chordwebs.webs import around, kept, tied


def other_side(web, places):
    return tuple([place for place in range(web[0]) if place not in places])


def cut_rank(web, places):
    others = other_side(web, places)
    free = []
    for place in places:
        rest = row_of(web, place, others)
        # No row of free has the highest bit of one ahead of it, so no later step sets again what one has cleared.
        for row in free:
            rest = min(rest, rest ^ row)
        if rest != 0:
            free.append(rest)
    return len(free)


def row_of(web, place, others):
    # One bit for each place, so that the sum of two rows is ^.
    return sum([1 << other for other in others if tied(web, place, other)])


def is_split(web, places):
    if not are_places(web[0], places) or not is_rising(places):
        return False
    return 2 <= len(places) <= web[0] - 2 and cut_rank(web, places) <= 1


def splits(web):
    sides = [(0,)]
    for place in range(1, web[0]):
        sides = sides + [side + (place,) for side in sides]
    return sorted([side for side in sides if is_split(web, side)])


def parted(web, places):
    if not is_split(web, places):
        raise NoSplit("no side of a split")
    others = other_side(web, places)
    return (part_of(web, places, others), part_of(web, others, places))


def part_of(web, side, others):
    last = len(side)
    ties = list(kept(web, side)[1])
    for k in range(last):
        if row_of(web, side[k], others) != 0:
            ties.append((k, last))
    return (last + 1, tuple(sorted(ties)))


def put_together(one, two):
    ahead = one[0] - 1
    many = ahead + two[0] - 1
    refuse_more(many, MOST_PLACES)
    ties = [tie for tie in one[1] if tie[1] < ahead]
    ties.extend([(tie[0] + ahead, tie[1] + ahead) for tie in two[1] if tie[1] < two[0] - 1])
    for place in around(one, ahead):
        ties.extend([(place, other + ahead) for other in around(two, two[0] - 1)])
    return (many, tuple(sorted(ties)))


def ring_together(one, two):
    ahead = len(one) // 2 - 1
    refuse_more(ahead + len(two) // 2 - 1, MOST_PLACES)
    first = beside_last(one)
    second = beside_last(tuple([place + ahead for place in two]))
    return first[0] + second[0] + first[1] + second[1]


def beside_last(ring):
    last = max(ring)
    begun = turned_round(ring, ring.index(last))
    second = begun.index(last, 1)
    return (begun[1:second], begun[second + 1:])
