"""What several tests draw on: all small webs and rings, and things that are of no use as either."""

from itertools import chain, combinations, permutations


def all_pairs(many):
    return list(combinations(range(many), 2))


def all_webs(most):
    """All webs of 1 to most places."""
    webs = []
    for many in range(1, most + 1):
        pairs = all_pairs(many)
        for count in range(len(pairs) + 1):
            webs.extend((many, ties) for ties in combinations(pairs, count))
    return webs


def web_number(many, number):
    """The web whose ties are told by the bits of a number."""
    pairs = all_pairs(many)
    return (many, tuple(pair for k, pair in enumerate(pairs) if number >> k & 1))


def some_webs(many, step):
    """Every step-th web of that many places."""
    return [web_number(many, number) for number in range(0, 1 << len(all_pairs(many)), step)]


def round_web(many):
    """Each place tied to the next one, the last one to the first."""
    return (many, tuple(sorted([(k, k + 1) for k in range(many - 1)] + [(0, many - 1)])))


def all_sides(many):
    """All rising tuples of places, that of none and that of all among them."""
    return [side for count in range(many + 1) for side in combinations(range(many), count)]


def plainly_tied(web, one, other):
    return (one, other) in web[1] or (other, one) in web[1]


def plainly_turned(web, place):
    ties = []
    for one, other in all_pairs(web[0]):
        both = plainly_tied(web, one, place) and plainly_tied(web, other, place)
        if plainly_tied(web, one, other) is not both:
            ties.append((one, other))
    return (web[0], tuple(ties))


def all_rings(most):
    """All rings of 1 to most places."""
    rings = []
    for many in range(1, most + 1):
        ends = chain.from_iterable((place, place) for place in range(many))
        rings.extend(sorted(set(permutations(ends))))
    return rings


def deep(thing, depth):
    for _ in range(depth):
        thing = (thing, [thing])
    return thing


def chained(thing, depth):
    for _ in range(depth):
        thing = (thing,)
    return thing


# Built of whole numbers, truths, None, texts, lists, tuples and dicts; none is a web or a ring.
NO_USE = (
    None, True, False, 0, 1, 2, -1, 10 ** 50, "", "0", "00", "3 : 0-1 1-2", "0 1 0 1",
    [], [0, 0], [1, []], [1, ()], {}, {0: 0}, {1: ()}, {"many": 1, "ties": ()},
    (), (None,), (None, None), (True, True), (False, False), ("", ""), ("0", "0"), ([], []), ({}, {}), ((), ()),
    ((1, ()),), ((1, ()), (1, ())), ((0, 0),), ((0, 0), (0, 0)), [(1, ())], {1: (1, ())}, ([0, 0], [0, 0]),
    deep(1, 6), deep((1, ()), 6), deep((0, 0), 6), deep([], 6), deep(None, 6), chained((), 20), chained(0, 25),
    {1: [{2: ({3: []},)}]},
)
