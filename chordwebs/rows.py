"""Chords apart and together [80], in a stretch [81], and rows of layers [82]."""

from chordwebs.basics import are_places, is_number, is_rising, pairs, pairs_of
from chordwebs.rings import cross, web_of
from chordwebs.webs import tied


def are_apart(ring, thing):
    return are_rising_places(ring, thing) and not any([cross(ring, pair[0], pair[1]) for pair in pairs_of(thing)])


def are_together(ring, thing):
    return are_rising_places(ring, thing) and all([cross(ring, pair[0], pair[1]) for pair in pairs_of(thing)])


def are_rising_places(ring, thing):
    return are_places(len(ring) // 2, thing) and is_rising(thing)


def most_apart(ring):
    return most_where(web_of(ring), tuple(range(len(ring) // 2)), False)


def most_together(ring):
    return most_where(web_of(ring), tuple(range(len(ring) // 2)), True)


def most_where(web, places, crossing):
    if not places:
        return ()
    fitting = tuple([place for place in places[1:] if tied(web, places[0], place) == crossing])
    begun = places[:1] + most_where(web, fitting, crossing)
    # Of two as great the one that has the first place is the less, so without it only a greater one counts.
    if len(begun) >= len(places) - 1:
        return begun
    later = most_where(web, places[1:], crossing)
    return later if len(later) > len(begun) else begun


def most_in(ring, first, last):
    stretch = [ring[k] for k in range(len(ring)) if first <= k < last]
    inside = tuple([place for place in range(len(ring) // 2) if stretch.count(place) == 2])
    return len(most_where(web_of(ring), inside, False))


def are_layers(ring, thing):
    many = len(ring) // 2
    if not isinstance(thing, tuple) or len(thing) != many:
        return False
    if not all([is_number(layer) and layer >= 0 for layer in thing]):
        return False
    alike = [pair for pair in pairs(many) if thing[pair[0]] == thing[pair[1]]]
    return not any([cross(ring, pair[0], pair[1]) for pair in alike])


def fewest_layers(ring):
    web = web_of(ring)
    # Places that are together lie in unlike layers, so with fewer there is nothing to be found.
    count = len(most_together(ring))
    row = layered(web, count, ())
    while row is None:
        count += 1
        row = layered(web, count, ())
    return row


def layered(web, count, row):
    if len(row) == web[0]:
        return row
    # Layers not yet used are all one, so the least of them stands for each.
    for layer in range(min(count, len(set(row)) + 1)):
        if fits(web, row, layer):
            found = layered(web, count, row + (layer,))
            if found is not None:
                return found
    return None


def fits(web, row, layer):
    return not any([row[k] == layer and tied(web, k, len(row)) for k in range(len(row))])
