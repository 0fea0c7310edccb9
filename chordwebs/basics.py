"""What the other modules share: the bound on places, whole numbers, places, pairs, one refusal."""

from chordwebs.errors import TooMany

MOST_PLACES = 9


def is_number(thing):
    # Python counts True and False among the ints; here they are no numbers.
    return isinstance(thing, int) and not isinstance(thing, bool)


def are_places(many, thing):
    return isinstance(thing, tuple) and all([is_number(place) and 0 <= place < many for place in thing])


def is_rising(things):
    return all([things[k] < things[k + 1] for k in range(len(things) - 1)])


def pairs(many):
    return pairs_of(tuple(range(many)))


def pairs_of(places):
    found = []
    for k in range(len(places)):
        for j in range(k + 1, len(places)):
            found.append((places[k], places[j]))
    return found


def refuse_more(many, most):
    if many > most:
        raise TooMany(f"more than {most} places")
