"""Rings found [50]: whether a ring tells a web, and some ring that does."""

from chordwebs.basics import refuse_more
from chordwebs.rings import web_of
from chordwebs.webs import tied

MOST_FOUND = 7


def tells(ring, web):
    return web_of(ring) == web


def ring_of(web):
    refuse_more(web[0], MOST_FOUND)
    order = near_order(web)
    return grown(web, order, 1, (order[0], order[0]))


def near_order(web):
    # The more ties a place has to those ahead of it, the fewer ways there are to lay its chord.
    order = []
    while len(order) < web[0]:
        rest = [place for place in range(web[0]) if place not in order]
        order.append(max([(len(tied_among(web, place, order)), place) for place in rest])[1])
    return order


def tied_among(web, place, others):
    return [other for other in others if tied(web, place, other)]


def grown(web, order, done, ring):
    if done == len(order):
        return ring
    place = order[done]
    for longer in with_chord(ring, place, tied_among(web, place, order[:done])):
        found = grown(web, order, done + 1, longer)
        if found is not None:
            return found
    return None


def with_chord(ring, place, crossed):
    wanted = sum([1 << other for other in crossed])
    found = []
    # A chord's end at the very beginning lies as one at the very end does, so the beginning is left out.
    for first in range(1, len(ring) + 1):
        inside = 0
        for second in range(first, len(ring) + 1):
            # Bits tell the places that stand just once from first on and ahead of second.
            if inside == wanted:
                found.append(ring[:first] + (place,) + ring[first:second] + (place,) + ring[second:])
            if second < len(ring):
                inside = inside ^ (1 << ring[second])
    return found
