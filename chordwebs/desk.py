"""The desk [91], [92]: keeps webs and rings by names, is told lines and answers."""

from chordwebs.bars import bar_of
from chordwebs.errors import BadNote, NoName
from chordwebs.found import ring_of, tells
from chordwebs.notes import figure, ring_read, ring_text, web_read, web_text, words_of
from chordwebs.rings import least, web_of
from chordwebs.splits import splits
from chordwebs.tellings import all_rings
from chordwebs.turns import web_turned

LETTERS = "abcdefghijklmnopqrstuvwxyz"
LONGEST_NAME = 8
LAST_PLACE = 8
# What follows the first words of a line: "web" and "ring" are names of what is kept, "new" a name to keep it by.
FORMS = {
    "web": ("new", "web text"),
    "ring": ("new", "ring text"),
    "webs": (),
    "rings": (),
    "show web": ("web",),
    "show ring": ("ring",),
    "of": ("ring", "new"),
    "found": ("web", "new"),
    "tells": ("ring", "web"),
    "all": ("web",),
    "turn": ("web", "place", "new"),
    "least": ("ring",),
    "splits": ("web",),
    "bar": ("web",),
}
KEEPING = ("web", "ring", "of", "found", "turn")


def line_read(line):
    words = words_of(line)
    ahead = 2 if words[0] == "show" else 1
    head = " ".join(words[:ahead])
    if head not in FORMS:
        raise BadNote("no such line")
    rest = words[ahead:]
    if head in ("web", "ring"):
        # A text has blanks of its own, so all behind the name is one.
        rest = rest[:1] + [" ".join(rest[1:])]
    if len(rest) != len(FORMS[head]):
        raise BadNote("another count of words")
    return (head, [word_read(pair[0], pair[1]) for pair in zip(FORMS[head], rest)])


def word_read(kind, word):
    if kind == "web text":
        return web_read(word)
    if kind == "ring text":
        return ring_read(word)
    if kind == "place":
        return place_read(word)
    if not is_name(word):
        raise BadNote("no name")
    return word


def place_read(word):
    place = figure(word)
    if place is None or place > LAST_PLACE:
        raise BadNote("no place")
    return place


def is_name(word):
    return 1 <= len(word) <= LONGEST_NAME and all([letter in LETTERS for letter in word])


def turned_at(web, place):
    if place >= web[0]:
        raise BadNote("no place of that web")
    return web_turned(web, place)


def yes_or_no(truth):
    return "yes" if truth else "no"


def sides_text(sides):
    # A side is written as a ring is: its places with blanks between.
    return " ; ".join([ring_text(side) for side in sides]) if sides else "none"


class Desk:
    def __init__(self):
        self.webs = {}
        self.rings = {}

    def say(self, line):
        asked = line_read(line)
        head = asked[0]
        given = [self.looked_up(pair[0], pair[1]) for pair in zip(FORMS[head], asked[1])]
        return self.keep(head, given) if head in KEEPING else self.tell(head, given)

    def looked_up(self, kind, thing):
        if kind not in ("web", "ring"):
            return thing
        found = self.webs.get(thing) if kind == "web" else self.rings.get(thing)
        if found is None:
            raise NoName(f"no {kind} is kept by the name {thing}")
        return found

    def keep(self, head, given):
        if head == "web":
            self.webs[given[0]] = given[1]
        elif head == "ring":
            self.rings[given[0]] = given[1]
        elif head == "of":
            self.webs[given[1]] = web_of(given[0])
        elif head == "turn":
            self.webs[given[2]] = turned_at(given[0], given[1])
        else:
            ring = ring_of(given[0])
            if ring is None:
                return "none"
            self.rings[given[1]] = ring
        return "ok"

    def tell(self, head, given):
        if head == "webs":
            return " ".join(sorted(self.webs))
        if head == "rings":
            return " ".join(sorted(self.rings))
        if head == "show web":
            return web_text(given[0])
        if head == "show ring":
            return ring_text(given[0])
        if head == "tells":
            return yes_or_no(tells(given[0], given[1]))
        if head == "all":
            return str(len(all_rings(given[0])))
        if head == "least":
            return ring_text(least(given[0]))
        if head == "splits":
            return sides_text(splits(given[0]))
        return yes_or_no(bar_of(given[0]) is not None)
