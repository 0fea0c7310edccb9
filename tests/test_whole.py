"""What is promised over the whole program, and through the desk as through the functions."""

import inspect
import unittest

from chordwebs import bars, desk, errors, found, notes, rings, rows, splits, tellings, turns, webs
from samples import all_pairs, all_rings, all_sides, all_webs, round_web, some_webs

NINE = (0, 1, 2, 3, 4, 5, 6, 7, 8, 4, 0, 8, 2, 1, 7, 5, 3, 6)
RINGS = all_rings(3) + [ring for ring in all_rings(4) if len(ring) == 8][::41] + [NINE]
BARRED = [bars.bar_web("wheel5"), bars.bar_web("cube7"), (7, bars.bar_web("wheel5")[1])]
WEBS = all_webs(4) + some_webs(5, 43) + some_webs(6, 1999) + some_webs(7, 149993) + BARRED + [
    (8, ()), round_web(8), (9, tuple(all_pairs(9))), bars.bar_web("wheel7")]

INTERFACE = {
    webs: "is_web(thing) tied(web,one,other) around(web,place) other_web(web) kept(web,places) named(web,order) "
          "pieces(web)",
    rings: "is_ring(thing) web_of(ring) turned_round(ring,by) mirrored(ring) least(ring) same(one,other) "
           "named_ring(ring,order) without(ring,places)",
    turns: "web_turned(web,place) ring_turned(ring,place) swapped(web,one,other) all_turned(web) turns_to(one,other)",
    splits: "cut_rank(web,places) is_split(web,places) splits(web) parted(web,places) put_together(one,two) "
            "ring_together(one,two)",
    found: "tells(ring,web) ring_of(web)",
    bars: "bar_web(word) bar_holds(web,thing) bar_of(web)",
    tellings: "all_rings(web) is_whole(web)",
    rows: "are_apart(ring,thing) are_together(ring,thing) most_apart(ring) most_together(ring) "
          "most_in(ring,first,last) are_layers(ring,thing) fewest_layers(ring)",
    notes: "web_text(web) ring_text(ring) web_read(text) ring_read(text)",
}


def answer_of(ask, *given):
    """What is told, or the class of the refusal."""
    try:
        return ask(*given)
    except errors.ChordError as refusal:
        return type(refusal)


def yes_or_no(truth):
    return "yes" if truth else "no"


class Interface(unittest.TestCase):
    def test_names_and_arguments(self):
        for module, told in INTERFACE.items():
            for row in told.split(" "):
                name, _, rest = row.partition("(")
                arguments = list(inspect.signature(getattr(module, name)).parameters)
                self.assertEqual(arguments, rest[:-1].split(","), name)
        self.assertEqual(list(inspect.signature(desk.Desk).parameters), [])
        self.assertEqual(list(inspect.signature(desk.Desk().say).parameters), ["line"])


class RingsAndBars(unittest.TestCase):
    def test_a_ring_just_where_there_is_no_bar(self):
        both = {True: 0, False: 0}
        for web in all_webs(5) + some_webs(6, 23) + some_webs(7, 4001) + BARRED:
            ring = found.ring_of(web)
            bar = bars.bar_of(web)
            self.assertIs(ring is None, bar is not None, repr(web))
            both[ring is None] += 1
            if ring is None:
                self.assertIs(bars.bar_holds(web, bar), True)
            else:
                self.assertIs(found.tells(ring, web), True)
        self.assertGreater(min(both.values()), 40)

    def test_a_ring_in_the_list_of_all_just_where_one_is_found(self):
        for web in all_webs(4) + some_webs(5, 19):
            told = tellings.all_rings(web)
            ring = found.ring_of(web)
            self.assertEqual([other for other in told if rings.same(other, ring)], [rings.least(ring)])

    def test_what_is_apart_in_a_ring_is_so_in_its_web(self):
        for ring in RINGS:
            web = rings.web_of(ring)
            for side in all_sides(web[0])[1:]:
                self.assertIs(rows.are_apart(ring, side), webs.kept(web, side)[1] == ())
                self.assertIs(rows.are_together(ring, side), webs.other_web(webs.kept(web, side))[1] == ())

    def test_rings_of_one_web_are_told_alike(self):
        for web in all_webs(4) + some_webs(5, 31):
            told = {(rows.most_apart(ring), rows.most_together(ring), rows.fewest_layers(ring))
                    for ring in tellings.all_rings(web)}
            self.assertEqual(len(told), 1)

    def test_whole_webs_and_rings_put_together(self):
        # Two webs of three places at least, put together, fall apart at a split: so they are never whole.
        some = [ring for ring in RINGS if len(ring) in (6, 8)][::9]
        for one in some:
            for two in some[::3]:
                ring = splits.ring_together(one, two)
                web = rings.web_of(ring)
                self.assertEqual(web, splits.put_together(rings.web_of(one), rings.web_of(two)))
                self.assertIs(tellings.is_whole(web), False)


class ThroughTheDesk(unittest.TestCase):
    def test_webs(self):
        at = desk.Desk()
        for web in WEBS:
            self.assertEqual(at.say("web w " + notes.web_text(web)), "ok")
            self.assertEqual(notes.web_read(at.say("show web w")), web)
            sides = splits.splits(web)
            texts = [" ".join(str(place) for place in side) for side in sides]
            self.assertEqual(at.say("splits w"), " ; ".join(texts) if sides else "none")
            for place in range(web[0]):
                self.assertEqual(at.say(f"turn w {place} t"), "ok")
                self.assertEqual(notes.web_read(at.say("show web t")), turns.web_turned(web, place))

    def test_what_webs_ask_for(self):
        at = desk.Desk()
        for web in WEBS:
            at.say("web w " + notes.web_text(web))
            bar = answer_of(bars.bar_of, web)
            wanted = bar if bar is errors.TooMany else yes_or_no(bar is not None)
            self.assertEqual(answer_of(at.say, "bar w"), wanted)
            told = answer_of(tellings.all_rings, web)
            self.assertEqual(answer_of(at.say, "all w"), told if told is errors.TooMany else str(len(told)))
            self.found_rightly(at, web)

    def found_rightly(self, at, web):
        ring = answer_of(found.ring_of, web)
        at.say("ring r 0 0")
        answer = answer_of(at.say, "found w r")
        if ring is errors.TooMany:
            self.assertIs(answer, errors.TooMany)
        else:
            self.assertEqual(answer, "none" if ring is None else "ok")
        if answer == "ok":
            self.assertEqual(at.say("tells r w"), "yes")
            self.assertIs(found.tells(notes.ring_read(at.say("show ring r")), web), True)
            self.assertEqual(at.say("bar w"), "no")
        else:
            self.assertEqual(at.say("show ring r"), "0 0")

    def test_rings(self):
        at = desk.Desk()
        for ring in RINGS:
            self.assertEqual(at.say("ring r " + notes.ring_text(ring)), "ok")
            self.assertEqual(notes.ring_read(at.say("show ring r")), ring)
            self.assertEqual(notes.ring_read(at.say("least r")), rings.least(ring))
            self.assertEqual(at.say("of r w"), "ok")
            self.assertEqual(notes.web_read(at.say("show web w")), rings.web_of(ring))
            self.assertEqual(at.say("tells r w"), "yes")
            for web in ((1, ()), (2, ((0, 1),)), (3, ((0, 1), (1, 2))), (4, ())):
                at.say("web o " + notes.web_text(web))
                self.assertEqual(at.say("tells r o"), yes_or_no(found.tells(ring, web)))

    def test_rings_turned(self):
        at = desk.Desk()
        for ring in RINGS:
            at.say("ring r " + notes.ring_text(ring))
            at.say("of r w")
            for place in range(len(ring) // 2):
                at.say(f"turn w {place} t")
                at.say("ring u " + notes.ring_text(turns.ring_turned(ring, place)))
                self.assertEqual(at.say("tells u t"), "yes")


if __name__ == "__main__":
    unittest.main()
