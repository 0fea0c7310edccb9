"""Notes [90]: webs and rings written as texts, and read again."""

from chordwebs.errors import BadNote
from chordwebs.rings import is_ring
from chordwebs.webs import is_web

FIGURES = "0123456789"


def web_text(web):
    words = [str(web[0]), ":"]
    words.extend([tie_text(tie) for tie in web[1]])
    return " ".join(words)


def tie_text(tie):
    return "-".join([str(place) for place in tie])


def ring_text(ring):
    return " ".join([str(place) for place in ring])


def web_read(text):
    words = words_of(text)
    if len(words) < 2 or words[1] != ":":
        raise BadNote("writes no web")
    web = (figure(words[0]), tuple([tie_read(word) for word in words[2:]]))
    if not is_web(web):
        raise BadNote("writes no web")
    return web


def tie_read(word):
    return (figure(word[:1]), figure(word[2:])) if word[1:2] == "-" else None


def ring_read(text):
    ring = tuple([figure(word) for word in words_of(text)])
    if not is_ring(ring):
        raise BadNote("writes no ring")
    return ring


def words_of(text):
    if not isinstance(text, str):
        raise BadNote("no text")
    return text.split(" ")


def figure(word):
    # No web and no ring has a number of two figures; what is no figure becomes None, which is no number of theirs.
    return int(word) if len(word) == 1 and word in FIGURES else None
