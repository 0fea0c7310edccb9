"""All rings [70]: every least ring that tells a web, and webs that are whole."""

from chordwebs.basics import refuse_more
from chordwebs.found import tied_among, with_chord
from chordwebs.rings import least
from chordwebs.splits import splits

MOST_TOLD = 5
FEWEST_WHOLE = 5


def all_rings(web):
    refuse_more(web[0], MOST_TOLD)
    rings = [(0, 0)]
    for place in range(1, web[0]):
        rings = all_with_chord(rings, place, tied_among(web, place, tuple(range(place))))
    # Rings that are the same may be laid in unlike orders of standings, so their least one may come up twice.
    return sorted(set([least(ring) for ring in rings]))


def all_with_chord(rings, place, crossed):
    longer = []
    for ring in rings:
        longer.extend(with_chord(ring, place, crossed))
    return longer


def is_whole(web):
    return web[0] >= FEWEST_WHOLE and splits(web) == []
