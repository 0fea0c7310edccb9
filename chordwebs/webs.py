"""Webs [10], [11]: (many, ties), places and which two of them are tied."""

from chordwebs.basics import MOST_PLACES, is_number, is_rising, pairs


def is_web(thing):
    if not isinstance(thing, tuple) or len(thing) != 2:
        return False
    many = thing[0]
    ties = thing[1]
    if not is_number(many) or not 1 <= many <= MOST_PLACES:
        return False
    if not isinstance(ties, tuple):
        return False
    # Only ties of the right form can be compared, so the order is asked last.
    return all([is_tie(many, tie) for tie in ties]) and is_rising(ties)


def is_tie(many, thing):
    if not isinstance(thing, tuple) or len(thing) != 2:
        return False
    if not is_number(thing[0]) or not is_number(thing[1]):
        return False
    return 0 <= thing[0] < thing[1] < many


def tied(web, one, other):
    return (min(one, other), max(one, other)) in web[1]


def around(web, place):
    return tuple([other for other in range(web[0]) if tied(web, place, other)])


def other_web(web):
    return (web[0], tuple([pair for pair in pairs(web[0]) if pair not in web[1]]))


def kept(web, places):
    many = len(places)
    ties = [pair for pair in pairs(many) if tied(web, places[pair[0]], places[pair[1]])]
    return (many, tuple(ties))


def named(web, order):
    return kept(web, order)


def pieces(web):
    found = []
    for place in range(web[0]):
        if not any([place in piece for piece in found]):
            found.append(piece_of(web, place))
    return found


def piece_of(web, place):
    reached = [place]
    done = 0
    while done < len(reached):
        for other in around(web, reached[done]):
            if other not in reached:
                reached.append(other)
        done += 1
    return tuple(sorted(reached))
