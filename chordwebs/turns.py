"""Turns [30] to [33]: webs and rings turned at a place, and where a web comes to by turns."""

from chordwebs.basics import pairs_of, refuse_more
from chordwebs.errors import NoTie
from chordwebs.webs import around, tied

MOST_TURNED = 5


def web_turned(web, place):
    near = pairs_of(around(web, place))
    return (web[0], tuple(sorted(set(web[1]) ^ set(near))))


def ring_turned(ring, place):
    first = ring.index(place)
    second = ring.index(place, first + 1)
    return ring[:first] + tuple(reversed(ring[first:second + 1])) + ring[second + 1:]


def swapped(web, one, other):
    if not tied(web, one, other):
        raise NoTie(f"{one} and {other} are not tied")
    return web_turned(web_turned(web_turned(web, one), other), one)


def all_turned(web):
    refuse_more(web[0], MOST_TURNED)
    return sorted(turn_lists(web))


def turns_to(one, other):
    if one[0] != other[0]:
        return None
    refuse_more(one[0], MOST_TURNED)
    return turn_lists(one).get(other)


def turn_lists(web):
    lists = {web: []}
    edge = [web]
    while edge:
        edge = spread(lists, edge)
    return lists


def spread(lists, edge):
    # The edge lies as its lists rise, and so does what is told: thus the first list to come to a web is the least.
    farther = []
    for web in edge:
        for place in range(web[0]):
            turned = web_turned(web, place)
            if turned not in lists:
                lists[turned] = lists[web] + [place]
                farther.append(turned)
    return farther
