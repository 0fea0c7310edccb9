"""What several tests draw on: all small webs and rings, and things that are of no use as either."""

import re
from itertools import chain, combinations, permutations

# The signs that texts are of: from the blank to ~, without the percent sign.
SIGNS = [chr(code) for code in range(32, 127) if code != 37]


def all_pairs(many):
    return list(combinations(range(many), 2))


def all_webs(most):
    """All webs of 1 to most places."""
    webs = []
    for many in range(1, most + 1):
        pairs = all_pairs(many)
        for count in range(len(pairs) + 1):
            webs.extend((many, ties) for ties in combinations(pairs, count))
    return webs


def web_number(many, number):
    """The web whose ties are told by the bits of a number."""
    pairs = all_pairs(many)
    return (many, tuple(pair for k, pair in enumerate(pairs) if number >> k & 1))


def some_webs(many, step):
    """Every step-th web of that many places."""
    return [web_number(many, number) for number in range(0, 1 << len(all_pairs(many)), step)]


def round_web(many):
    """Each place tied to the next one, the last one to the first."""
    return (many, tuple(sorted([(k, k + 1) for k in range(many - 1)] + [(0, many - 1)])))


def all_sides(many):
    """All rising tuples of places, that of none and that of all among them."""
    return [side for count in range(many + 1) for side in combinations(range(many), count)]


def plainly_tied(web, one, other):
    return (one, other) in web[1] or (other, one) in web[1]


def plainly_turned(web, place):
    ties = []
    for one, other in all_pairs(web[0]):
        both = plainly_tied(web, one, place) and plainly_tied(web, other, place)
        if plainly_tied(web, one, other) is not both:
            ties.append((one, other))
    return (web[0], tuple(ties))


def others_of(web, side):
    return tuple(place for place in range(web[0]) if place not in side)


def plain_row(web, side, place):
    return {other for other in others_of(web, side) if plainly_tied(web, place, other)}


def is_free(rows):
    """No sum of one or more of the rows is empty."""
    for count in range(1, len(rows) + 1):
        for some in combinations(rows, count):
            total = set()
            for row in some:
                total = total ^ row
            if not total:
                return False
    return True


def plain_rank(web, side):
    rows = [plain_row(web, side, place) for place in side]
    return max(count for count in range(len(side) + 1) if any(is_free(some) for some in combinations(rows, count)))


def plainly_split(web, side):
    return len(side) >= 2 and len(others_of(web, side)) >= 2 and plain_rank(web, side) <= 1


def all_rings(most):
    """All rings of 1 to most places."""
    rings = []
    for many in range(1, most + 1):
        ends = chain.from_iterable((place, place) for place in range(many))
        rings.extend(sorted(set(permutations(ends))))
    return rings


def chords(ends):
    """All ways to join the ends two by two, each a list of pairs."""
    if not ends:
        return [[]]
    ways = []
    for k in range(1, len(ends)):
        ways.extend([(ends[0], ends[k])] + rest for rest in chords(ends[1:k] + ends[k + 1:]))
    return ways


def ring_of_chords(pairs):
    ends = {end: place for place, pair in enumerate(pairs) for end in pair}
    return tuple(ends[end] for end in range(len(ends)))


def plainly_cross(ring, one, other):
    ends = [place for place in ring if place in (one, other)]
    return ends in ([one, other, one, other], [other, one, other, one])


def all_turnings(ring):
    size = len(ring)
    ahead = [tuple(ring[(start + step) % size] for step in range(size)) for start in range(size)]
    back = [tuple(ring[(start - step) % size] for step in range(size)) for start in range(size)]
    return ahead + back


def plainly_web(text):
    """The web that a text writes, or None, by the form of the whole text."""
    if not re.fullmatch(r"[1-9] :( [0-8]-[0-8])*", text):
        return None
    many = int(text[0])
    ties = [(int(text[k]), int(text[k + 2])) for k in range(4, len(text), 4)]
    rising = all(ties[k] < ties[k + 1] for k in range(len(ties) - 1))
    inside = all(one < other < many for one, other in ties)
    return (many, tuple(ties)) if rising and inside else None


def plainly_ring(text):
    """The ring that a text writes, or None, by the form of the whole text."""
    if not re.fullmatch(r"[0-8]( [0-8])*", text):
        return None
    numbers = [int(figure) for figure in text[::2]]
    right = sorted(numbers) == sorted(list(range(len(numbers) // 2)) * 2)
    return tuple(numbers) if right else None


def one_sign_off(text):
    """The text with a sign out, a sign more, or a sign in the stead of another."""
    texts = [text[:k] + text[k + 1:] for k in range(len(text))]
    for sign in SIGNS:
        texts.extend(text[:k] + sign + text[k:] for k in range(len(text) + 1))
        texts.extend(text[:k] + sign + text[k + 1:] for k in range(len(text)))
    return texts


def words_off(text):
    """The text with a word out, twice, or two exchanged."""
    words = text.split(" ")
    rows = [words[:k] + words[k + 1:] for k in range(len(words))]
    rows += [words[:k + 1] + words[k:] for k in range(len(words))]
    for k, j in all_pairs(len(words)):
        row = list(words)
        row[k], row[j] = row[j], row[k]
        rows.append(row)
    return [" ".join(row) for row in rows]


def deep(thing, depth):
    for _ in range(depth):
        thing = (thing, [thing])
    return thing


def chained(thing, depth):
    for _ in range(depth):
        thing = (thing,)
    return thing


# Built of whole numbers, truths, None, texts, lists, tuples and dicts; none is a web or a ring.
NO_USE = (
    None, True, False, 0, 1, 2, -1, 10 ** 50, "", "0", "00", "3 : 0-1 1-2", "0 1 0 1",
    [], [0, 0], [1, []], [1, ()], {}, {0: 0}, {1: ()}, {"many": 1, "ties": ()},
    (), (None,), (None, None), (True, True), (False, False), ("", ""), ("0", "0"), ([], []), ({}, {}), ((), ()),
    ((1, ()),), ((1, ()), (1, ())), ((0, 0),), ((0, 0), (0, 0)), [(1, ())], {1: (1, ())}, ([0, 0], [0, 0]),
    deep(1, 6), deep((1, ()), 6), deep((0, 0), 6), deep([], 6), deep(None, 6), chained((), 20), chained(0, 25),
    {1: [{2: ({3: []},)}]},
)
