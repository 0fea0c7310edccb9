import copy
import re
import unittest

from chordwebs.bars import bar_of, bar_web
from chordwebs.desk import Desk
from chordwebs.errors import BadNote, NoName, TooMany
from chordwebs.found import ring_of, tells
from chordwebs.notes import ring_read, ring_text, web_read, web_text
from chordwebs.rings import least, web_of
from chordwebs.splits import splits
from chordwebs.tellings import all_rings
from chordwebs.turns import web_turned
from samples import NO_USE, one_sign_off, plainly_ring, plainly_web, round_web, words_off

WHEEL5 = web_text(bar_web("wheel5"))
CUBE7 = web_text(bar_web("cube7"))
EIGHT = web_text(round_web(8))

LINES = (
    "web a 3 : 0-1 1-2", "web b 1 :", "ring a 0 1 0 2 1 2", "ring b 0 0", "webs", "rings", "show web a", "show ring a",
    "of a n", "found a n", "tells a a", "tells b a", "all a", "turn a 1 n", "least a", "splits a", "splits s", "bar a",
    "bar w", "found w n",
)
KEPT = (
    "web a 3 : 0-1 1-2", "web b 2 : 0-1", "web s 5 : 0-1 2-3", "web w " + WHEEL5, "web e " + EIGHT,
    "ring a 1 0 1 2 0 2", "ring b 1 1 0 0", "ring r 0 1 2 0 1 2",
)


def desk_with(lines):
    desk = Desk()
    for line in lines:
        desk.say(line)
    return desk


def all_kept(desk):
    webs = [(name, desk.say("show web " + name)) for name in desk.say("webs").split(" ") if name]
    rings = [(name, desk.say("show ring " + name)) for name in desk.say("rings").split(" ") if name]
    return (webs, rings)


def answer_of(desk, line):
    """The answer, or the class of the refusal."""
    try:
        return desk.say(line)
    except (BadNote, NoName, TooMany) as refusal:
        return type(refusal)


class PlainDesk:
    """A second working of the desk: the forms of lines as patterns, one behind the other."""

    FORMS = (
        (r"web N (.*)", "web"), (r"ring N (.*)", "ring"), (r"webs", "webs"), (r"rings", "rings"),
        (r"show web N", "show_web"), (r"show ring N", "show_ring"), (r"of N N", "of"), (r"found N N", "found"),
        (r"tells N N", "tells"), (r"all N", "all"), (r"turn N ([0-8]) N", "turn"), (r"least N", "least"),
        (r"splits N", "splits"), (r"bar N", "bar"),
    )
    ASKED = {
        "show_web": "w", "show_ring": "r", "of": "r", "found": "w", "tells": "rw", "all": "w", "turn": "w",
        "least": "r", "splits": "w", "bar": "w",
    }

    def __init__(self):
        self.kept = {"w": {}, "r": {}}

    def say(self, line):
        for form, head in self.FORMS:
            match = re.fullmatch(form.replace("N", "([a-z]{1,8})"), line, re.DOTALL)
            if match:
                words = match.groups()
                break
        else:
            raise BadNote("")
        if head == "web" and plainly_web(words[1]) is None or head == "ring" and plainly_ring(words[1]) is None:
            raise BadNote("")
        things = []
        for kind, word in zip(self.ASKED.get(head, ""), words):
            if word not in self.kept[kind]:
                raise NoName("")
            things.append(self.kept[kind][word])
        if head == "turn" and int(words[1]) >= things[0][0]:
            raise BadNote("")
        return getattr(self, "say_" + head)(words, things)

    def keep(self, kind, name, thing):
        self.kept[kind][name] = thing
        return "ok"

    def say_web(self, words, things):
        return self.keep("w", words[0], plainly_web(words[1]))

    def say_ring(self, words, things):
        return self.keep("r", words[0], plainly_ring(words[1]))

    def say_webs(self, words, things):
        return " ".join(sorted(self.kept["w"]))

    def say_rings(self, words, things):
        return " ".join(sorted(self.kept["r"]))

    def say_show_web(self, words, things):
        return web_text(things[0])

    def say_show_ring(self, words, things):
        return ring_text(things[0])

    def say_of(self, words, things):
        return self.keep("w", words[1], web_of(things[0]))

    def say_found(self, words, things):
        ring = ring_of(things[0])
        return "none" if ring is None else self.keep("r", words[1], ring)

    def say_tells(self, words, things):
        return "yes" if tells(things[0], things[1]) else "no"

    def say_all(self, words, things):
        return "{}".format(len(all_rings(things[0])))

    def say_turn(self, words, things):
        return self.keep("w", words[2], web_turned(things[0], int(words[1])))

    def say_least(self, words, things):
        return ring_text(least(things[0]))

    def say_splits(self, words, things):
        return " ; ".join(" ".join(map(str, side)) for side in splits(things[0])) or "none"

    def say_bar(self, words, things):
        return "no" if bar_of(things[0]) is None else "yes"


class DeskCase(unittest.TestCase):
    def answers(self, desk, rows):
        for line, answer in rows:
            self.assertEqual(desk.say(line), answer, line)

    def refused(self, desk, line, error):
        before = all_kept(desk)
        with self.assertRaises(error, msg=repr(line)) as caught:
            desk.say(line)
        self.assertIs(type(caught.exception), error, repr(line))
        self.assertEqual(all_kept(desk), before)


class Kept(DeskCase):
    def test_a_new_desk_keeps_nothing(self):
        self.answers(Desk(), (("webs", ""), ("rings", "")))

    def test_webs(self):
        self.answers(Desk(), (
            ("web a 3 : 0-1 1-2", "ok"), ("show web a", "3 : 0-1 1-2"), ("webs", "a"), ("rings", ""),
            ("web web 1 :", "ok"), ("show web web", "1 :"), ("webs", "a web"),
            ("web abcdefgh 9 : 0-8 7-8", "ok"), ("show web abcdefgh", "9 : 0-8 7-8"), ("webs", "a abcdefgh web"),
        ))

    def test_rings(self):
        self.answers(Desk(), (
            ("ring a 0 1 0 2 1 2", "ok"), ("show ring a", "0 1 0 2 1 2"), ("rings", "a"), ("webs", ""),
            ("ring ring 1 0 0 1", "ok"), ("show ring ring", "1 0 0 1"), ("rings", "a ring"),
        ))

    def test_names_in_the_order_of_texts(self):
        desk = Desk()
        for name in ("b", "ab", "z", "a", "aa", "zz", "abc", "yes"):
            self.assertEqual(desk.say("web " + name + " 2 :"), "ok")
            self.assertEqual(desk.say("ring " + name + " 0 0"), "ok")
        self.answers(desk, (("webs", "a aa ab abc b yes z zz"), ("rings", "a aa ab abc b yes z zz")))

    def test_in_the_stead_of_an_elder_one_of_its_kind(self):
        self.answers(Desk(), (
            ("web a 2 : 0-1", "ok"), ("ring a 0 0 1 1", "ok"), ("web a 3 :", "ok"), ("show web a", "3 :"),
            ("show ring a", "0 0 1 1"), ("ring a 0 1 0 1", "ok"), ("show ring a", "0 1 0 1"), ("show web a", "3 :"),
            ("webs", "a"), ("rings", "a"),
        ))

    def test_a_web_and_a_ring_of_one_name(self):
        self.answers(Desk(), (
            ("web a 2 : 0-1", "ok"), ("ring a 0 0", "ok"), ("show web a", "2 : 0-1"), ("show ring a", "0 0"),
            ("tells a a", "no"), ("of a a", "ok"), ("show web a", "1 :"), ("tells a a", "yes"),
        ))

    def test_words_of_lines_as_names(self):
        desk = Desk()
        for name in ("web", "ring", "webs", "rings", "show", "of", "found", "tells", "all", "turn", "least", "splits",
                     "bar", "none", "ok", "yes", "no"):
            for line, answer in (
                ("web {} 2 : 0-1", "ok"), ("show web {}", "2 : 0-1"), ("found {} {}", "ok"), ("tells {} {}", "yes"),
                ("turn {} 1 {}", "ok"), ("all {}", "1"), ("of {} {}", "ok"), ("least {}", "0 1 0 1"), ("bar {}", "no"),
            ):
                self.assertEqual(desk.say(line.replace("{}", name)), answer, line)

    def test_two_desks_know_nothing_of_each_other(self):
        one = desk_with(("web a 2 : 0-1", "ring a 0 1 0 1"))
        two = Desk()
        self.answers(two, (("webs", ""), ("rings", "")))
        self.refused(two, "show web a", NoName)
        self.answers(two, (("web a 1 :", "ok"), ("web b 1 :", "ok"), ("ring c 0 0", "ok")))
        self.answers(one, (("webs", "a"), ("rings", "a"), ("show web a", "2 : 0-1"), ("show ring a", "0 1 0 1")))
        self.answers(two, (("webs", "a b"), ("rings", "c"), ("show web a", "1 :")))


class Asked(DeskCase):
    def test_of(self):
        self.answers(desk_with(("ring r 0 1 0 2 1 2", "web old 1 :")), (
            ("of r w", "ok"), ("show web w", "3 : 0-1 1-2"), ("of r old", "ok"), ("show web old", "3 : 0-1 1-2"),
            ("webs", "old w"), ("rings", "r"), ("of r r", "ok"), ("show ring r", "0 1 0 2 1 2"),
        ))

    def test_found(self):
        desk = desk_with(("web w 4 : 0-1 1-2 2-3", "ring old 0 0", "web f 7 : 0-6"))
        self.answers(desk, (
            ("found w r", "ok"), ("tells r w", "yes"), ("found w old", "ok"), ("tells old w", "yes"),
            ("rings", "old r"), ("webs", "f w"), ("found f f", "ok"), ("tells f f", "yes"), ("tells f w", "no"),
        ))
        self.assertEqual(web_of(ring_read(desk.say("show ring r"))), (4, ((0, 1), (1, 2), (2, 3))))

    def test_none_found_and_nothing_kept(self):
        self.answers(desk_with(("web w " + WHEEL5, "web c " + CUBE7, "ring old 0 0 1 1")), (
            ("found w r", "none"), ("rings", "old"), ("found w old", "none"), ("show ring old", "0 0 1 1"),
            ("found c old", "none"), ("found c w", "none"), ("rings", "old"), ("webs", "c w"),
        ))

    def test_tells(self):
        self.answers(desk_with(("ring r 0 1 0 2 1 2", "web a 3 : 0-1 1-2", "web b 3 : 0-1", "web c 2 : 0-1")), (
            ("tells r a", "yes"), ("tells r b", "no"), ("tells r c", "no"),
        ))

    def test_tells_of_more_than_seven_places(self):
        ring = ring_text(tuple(range(9)) * 2)
        self.answers(desk_with(("ring r " + ring, "web n 9 :")), (
            ("of r w", "ok"), ("tells r w", "yes"), ("tells r n", "no"), ("least r", ring),
        ))

    def test_all(self):
        self.answers(desk_with(("web a 1 :", "web b 3 :", "web c 5 :", "web d 5 : 0-1 0-4 1-2 2-3 3-4", "web e 4 :")), (
            ("all a", "1"), ("all b", "4"), ("all c", "282"), ("all d", "1"), ("all e", "27"),
        ))

    def test_turn(self):
        self.answers(desk_with(("web w 4 : 0-1 1-2 2-3", "web n 9 : 0-8 1-8")), (
            ("turn w 1 a", "ok"), ("show web a", "4 : 0-1 0-2 1-2 2-3"), ("turn w 0 b", "ok"),
            ("show web b", "4 : 0-1 1-2 2-3"), ("turn w 3 w", "ok"), ("turn w 2 w", "ok"),
            ("show web w", "4 : 0-1 1-2 1-3 2-3"), ("turn w 2 w", "ok"), ("show web w", "4 : 0-1 1-2 2-3"),
            ("turn n 8 n", "ok"), ("show web n", "9 : 0-1 0-8 1-8"), ("webs", "a b n w"), ("rings", ""),
        ))

    def test_least(self):
        self.answers(desk_with(("ring a 2 1 2 0 1 0", "ring b 0 0 2 2 1 1", "ring c 0 0")), (
            ("least a", "0 1 0 2 1 2"), ("least b", "0 0 1 1 2 2"), ("least c", "0 0"), ("show ring a", "2 1 2 0 1 0"),
        ))

    def test_splits(self):
        self.answers(desk_with(("web a 4 : 0-1 1-2 2-3", "web b 4 :", "web c 3 : 0-1", "web d 5 : 0-1 0-4 1-2 2-3 3-4",
                                "web e 5 : 0-1 1-2 2-3 3-4")), (
            ("splits a", "0 1"), ("splits b", "0 1 ; 0 2 ; 0 3"), ("splits c", "none"), ("splits d", "none"),
            ("splits e", "0 1 ; 0 1 2"),
        ))

    def test_bar(self):
        self.answers(desk_with(("web w " + WHEEL5, "web c " + CUBE7, "web n 7 :", "web a 1 :")), (
            ("bar w", "yes"), ("bar c", "yes"), ("bar n", "no"), ("bar a", "no"),
            ("turn w 1 w", "ok"), ("bar w", "yes"),
        ))

    def test_asked_again_the_same_is_told(self):
        one = desk_with(KEPT)
        two = desk_with(KEPT)
        self.assertEqual([answer_of(one, line) for line in LINES], [answer_of(two, line) for line in LINES])
        self.assertEqual(all_kept(one), all_kept(two))


class Refused(DeskCase):
    def test_no_text(self):
        desk = desk_with(KEPT)
        more = (["webs"], ("webs",), {"webs": ""}, [["webs"]], b"webs", 1.5, {"webs"}, object(), Desk, (3, ()), NoName)
        for thing in [thing for thing in NO_USE if not isinstance(thing, str)] + list(more):
            self.refused(desk, thing, BadNote)

    def test_no_such_line(self):
        desk = desk_with(KEPT)
        for line in ("", " ", "  ", "a", "hello", "Webs", "WEBS", "webs ", " webs", "webs\n", "webs a", "rings r",
                     "rings ", "show", "show ", "show a", "show webs", "show webs a", "show all a", "show  web a",
                     "show web", "show web ", "show web a ", "show web a b", "show ring", "show ring a a", "showweb a",
                     "show web\ta", "web", "web ", "web a", "web a ", "ring", "ring ", "ring a", "ring a ",
                     "webb a 1 :", "least", "least ", "least  a", "least a ", "least a a", "splits", "splits s s",
                     "bar", "bar w w", "all", "all a a", "of", "of a", "of a ", "of a n n", "found", "found a",
                     "found a n n", "tells", "tells a", "tells a a a", "turn", "turn a", "turn a 1", "turn a n",
                     "turn a 1 ", "turn a 1 n n", "turn 1 a n", "turn a n 1", "none", "ok", "found  a n", "of a  n",
                     "\u0430", "~" * 500, "webs " * 100, "w" * 600):
            self.refused(desk, line, BadNote)

    def test_texts_that_write_none(self):
        desk = desk_with(KEPT)
        for text in ("3", "3 :  0-1", "3 : 0-1 ", " 3 : 0-1", "3 : 1-0", "3 : 0-3", "0 :", "10 :", "03 :",
                     "3 : 1-2 0-1", "0 0", "0 1 0 1", "x", "none", "3 : 0-1\n"):
            self.refused(desk, "web a " + text, BadNote)
            self.refused(desk, "web new " + text, BadNote)
        for text in ("0", "0  0", "0 0 ", " 0 0", "0 1", "1 1", "0 0 0 0", "00 00", "3 : 0-1", "1 :", "x", "none",
                     "0 0\n"):
            self.refused(desk, "ring a " + text, BadNote)
            self.refused(desk, "ring new " + text, BadNote)

    def test_words_that_are_no_names(self):
        desk = desk_with(KEPT)
        for name in ("A", "aB", "a1", "1", "a-b", "a_b", "_", "", "abcdefghi", "a" * 9, "a" * 300, "a\n", "a.", "~",
                     "\u00e4", "\u00df", "\u0430", "a\u0301", "\u017f", "0", "a\t"):
            for line in ("web {} 1 :", "ring {} 0 0", "show web {}", "show ring {}", "of {} n", "of a {}", "found {} n",
                         "found a {}", "found w {}", "found e {}", "tells {} a", "tells a {}", "all {}", "turn {} 1 n",
                         "turn a 1 {}", "least {}", "splits {}", "bar {}"):
                self.refused(desk, line.format(name), BadNote)

    def test_words_that_are_no_places(self):
        desk = desk_with(KEPT)
        for word in ("9", "-1", "+1", "01", "00", "10", "1.", "x", "one", "", "1 1", "\u0661", "\u00b9", "1\n", "~"):
            self.refused(desk, "turn a " + word + " n", BadNote)
            self.refused(desk, "turn nosuch " + word + " n", BadNote)

    def test_no_such_name(self):
        desk = desk_with(KEPT)
        for line in ("show web nosuch", "show ring nosuch", "of nosuch n", "of nosuch a", "found nosuch n",
                     "found nosuch a", "tells nosuch a", "tells a nosuch", "tells nosuch nosuch", "all nosuch",
                     "turn nosuch 0 n", "turn nosuch 0 a", "least nosuch", "splits nosuch", "bar nosuch"):
            self.refused(desk, line, NoName)
            self.refused(Desk(), line, NoName)

    def test_a_name_of_the_other_kind(self):
        # s, w and e are webs alone, r is a ring alone.
        desk = desk_with(KEPT)
        for line in ("show web r", "show ring s", "of s n", "found r n", "tells s s", "tells r r", "tells w e", "all r",
                     "turn r 0 n", "least s", "splits r", "bar r", "least w"):
            self.refused(desk, line, NoName)

    def test_a_place_that_is_none_of_that_web(self):
        desk = desk_with(KEPT + ("web one 1 :", "web nine 9 :"))
        for line in ("turn a 3 n", "turn a 8 n", "turn a 3 a", "turn b 2 n", "turn one 1 n", "turn e 8 n",
                     "turn s 5 s"):
            self.refused(desk, line, BadNote)
        for line in ("turn a 2 n", "turn one 0 n", "turn e 7 n", "turn nine 8 n"):
            self.assertEqual(desk.say(line), "ok")

    def test_what_is_asked_refuses(self):
        desk = desk_with(KEPT + ("web nine 9 :", "web six 6 :", "web seven 7 : 0-1"))
        for line in ("found e n", "found e a", "found nine n", "bar e", "bar nine", "all w", "all e", "all nine",
                     "all six", "all seven"):
            self.refused(desk, line, TooMany)
        self.answers(desk, (("all s", "18"), ("found seven n", "ok"), ("bar seven", "no"), ("bar six", "no")))

    def test_which_goes_first(self):
        desk = desk_with(KEPT)
        rows = (
            ("turn nosuch 9 n", BadNote), ("turn nosuch 8 n", NoName), ("turn nosuch 8 N", BadNote),
            ("turn a 8 N", BadNote), ("turn a 9 n", BadNote), ("found nosuch N", BadNote), ("found e N", BadNote),
            ("found nosuch n", NoName), ("of nosuch N", BadNote), ("tells nosuch N", BadNote),
            ("tells N nosuch", BadNote), ("all e e", BadNote), ("all nosuch nosuch", BadNote), ("bar e ", BadNote),
            ("show web nosuch ", BadNote), ("found e n n", BadNote), ("web nosuch N", BadNote),
        )
        for line, error in rows:
            self.refused(desk, line, error)

    def test_an_empty_desk_refuses_without_a_trace(self):
        desk = Desk()
        for line in ("web a 0 :", "ring a 0", "of a b", "found a b", "turn a 0 b", "turn a 9 b", None, ["webs"]):
            with self.assertRaises((BadNote, NoName)):
                desk.say(line)
            self.assertEqual(all_kept(desk), ([], []))

    def test_what_is_handed_in_stays(self):
        thing = ["web a 1 :", {"a": ["webs"]}]
        before = copy.deepcopy(thing)
        self.refused(Desk(), thing, BadNote)
        self.assertEqual(thing, before)


class SecondWorking(DeskCase):
    def both(self, lines, said):
        desk = desk_with(lines)
        plain = PlainDesk()
        for line in lines:
            plain.say(line)
        kinds = {}
        for line in said:
            answer = answer_of(desk, line)
            self.assertEqual(answer, answer_of(plain, line), repr(line))
            kinds[str(answer)[:4]] = True
        self.assertEqual(all_kept(desk), all_kept(plain))
        return kinds

    def test_right_lines(self):
        self.both((), LINES + KEPT)
        self.both(KEPT, LINES + tuple(reversed(LINES)))

    def test_lines_with_another_sign(self):
        for line in LINES:
            self.both(KEPT, one_sign_off(line))

    def test_lines_with_other_words(self):
        said = [other for line in LINES + KEPT for other in words_off(line)]
        self.both(KEPT, said)

    def test_lines_of_all_words(self):
        words = ("web", "ring", "show", "of", "turn", "tells", "a", "r", "nosuch", "2", "N", ":")
        rows = [""]
        for _ in range(4):
            rows = rows[:1] + [(row + " " + word).strip() for row in rows for word in words]
        kinds = self.both(KEPT, sorted(set(rows)))
        self.assertGreater(len(kinds), 5)

    def test_web_read_is_what_the_desk_reads(self):
        desk = desk_with(KEPT)
        for text in ("3 : 0-1", "1 :", WHEEL5, EIGHT):
            desk.say("web t " + text)
            self.assertEqual(web_read(desk.say("show web t")), plainly_web(text))


if __name__ == "__main__":
    unittest.main()
