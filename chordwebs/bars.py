"""Bars [60], [61]: turns of a web, and places that then are a web which no ring tells."""

from chordwebs.basics import are_places, refuse_more
from chordwebs.found import ring_of
from chordwebs.turns import spread, web_turned
from chordwebs.webs import kept, tied

MOST_BARRED = 7
MOST_TURNS = 200
WORDS = ("wheel5", "wheel7", "cube7")


def bar_web(word):
    if word == "cube7":
        return around_nought(6, (1, 3, 5))
    rim = 5 if word == "wheel5" else 7
    return around_nought(rim, tuple(range(1, rim + 1)))


def around_nought(rim, spokes):
    ties = [(0, place) for place in spokes]
    ties.extend([(place, place + 1) for place in range(1, rim)])
    ties.append((1, rim))
    return (rim + 1, tuple(sorted(ties)))


def bar_holds(web, thing):
    if not isinstance(thing, tuple) or len(thing) != 2:
        return False
    turns = thing[0]
    places = thing[1]
    if not are_places(web[0], turns) or len(turns) > MOST_TURNS:
        return False
    if not are_places(web[0], places) or len(set(places)) < len(places):
        return False
    turned = web
    for place in turns:
        turned = web_turned(turned, place)
    return kept(turned, places) in [bar_web(word) for word in WORDS]


def bar_of(web):
    refuse_more(web[0], MOST_BARRED)
    # A web that is told has no bar; to see that without its ring, all webs it comes to would be gone through.
    if ring_of(web) is not None:
        return None
    lists = {web: []}
    edge = [web]
    while edge:
        for turned in edge:
            places = bar_places(turned)
            if places is not None:
                return (tuple(lists[turned]), places)
        edge = spread(lists, edge)
    return None


def bar_places(web):
    for word in WORDS:
        wanted = bar_web(word)
        if wanted[0] <= web[0]:
            places = places_like(web, wanted, ())
            if places is not None:
                return places
    return None


def places_like(web, wanted, places):
    if len(places) == wanted[0]:
        return places
    for place in range(web[0]):
        if place not in places and goes_on(web, wanted, places, place):
            found = places_like(web, wanted, places + (place,))
            if found is not None:
                return found
    return None


def goes_on(web, wanted, places, place):
    for k in range(len(places)):
        if tied(web, places[k], place) != tied(wanted, k, len(places)):
            return False
    return True
