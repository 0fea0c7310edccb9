import unittest

from chordwebs.errors import TooMany
from chordwebs.found import ring_of, tells
from chordwebs.rings import is_ring, web_of
from chordwebs.turns import web_turned
from chordwebs.webs import kept, named, pieces
from samples import all_pairs, all_rings, all_sides, all_webs, chords, ring_of_chords, round_web, some_webs

WHEEL = (6, ((0, 1), (0, 2), (0, 3), (0, 4), (0, 5), (1, 2), (1, 5), (2, 3), (3, 4), (4, 5)))
# Two threes, each place of the one tied to one of the other: the wheel turned at its rim.
PRISM = (6, ((0, 1), (0, 2), (0, 3), (1, 2), (1, 4), (2, 5), (3, 4), (3, 5), (4, 5)))
CUBE = (7, ((0, 1), (0, 3), (0, 5), (1, 2), (1, 6), (2, 3), (3, 4), (4, 5), (5, 6)))
NINE_RING = (0, 1, 2, 3, 4, 5, 6, 7, 8, 4, 0, 8, 2, 1, 7, 5, 3, 6)


def degrees(web):
    return sorted(sum(place in tie for tie in web[1]) for place in range(web[0]))


def is_wheel_or_prism(web):
    if degrees(web) == [3, 3, 3, 3, 3, 5]:
        return True
    # Of six places with three ties each there are two forms; in the prism some three places are all tied.
    threes = [side for side in all_sides(6) if len(side) == 3 and len(kept(web, side)[1]) == 3]
    return degrees(web) == [3] * 6 and len(threes) > 0


class Tells(unittest.TestCase):
    def test_some(self):
        self.assertIs(tells((0, 0), (1, ())), True)
        self.assertIs(tells((0, 1, 0, 2, 1, 2), (3, ((0, 1), (1, 2)))), True)
        self.assertIs(tells((0, 1, 0, 2, 1, 2), (3, ((0, 1), (0, 2)))), False)
        self.assertIs(tells((0, 1, 0, 1), (2, ())), False)
        self.assertIs(tells(NINE_RING, web_of(NINE_RING)), True)
        self.assertIs(tells(NINE_RING, (9, ())), False)
        self.assertIs(tells(tuple(range(9)) * 2, (9, tuple(all_pairs(9)))), True)

    def test_of_unlike_counts_of_places(self):
        self.assertIs(tells((0, 0), (2, ())), False)
        self.assertIs(tells((0, 0, 1, 1), (1, ())), False)
        self.assertIs(tells((0, 0), (9, ())), False)
        self.assertIs(tells(NINE_RING, (1, ())), False)
        self.assertIs(tells((0, 1, 0, 1), (3, ((0, 1),))), False)
        self.assertIs(tells((0, 1, 0, 1, 2, 2), (2, ((0, 1),))), False)

    def test_small_rings_and_webs(self):
        webs = all_webs(3) + [(4, ())]
        for ring in all_rings(3):
            self.assertEqual([web for web in webs if tells(ring, web)], [web_of(ring)])
            for web in webs:
                self.assertIs(tells(ring, web), web_of(ring) == web)


class RingOf(unittest.TestCase):
    def told(self, web):
        ring = ring_of(web)
        self.assertIs(is_ring(ring), True, repr(web))
        self.assertEqual(web_of(ring), web)

    def test_some(self):
        self.assertEqual(ring_of((1, ())), (0, 0))
        for many in range(1, 8):
            self.told((many, ()))
            self.told((many, tuple(all_pairs(many))))
            self.told((many, tuple((0, k) for k in range(1, many))))
            self.told((many, tuple((k, k + 1) for k in range(many - 1))))
        for many in range(3, 8):
            self.told(round_web(many))

    def test_all_webs_of_at_most_five_places_are_told(self):
        for web in all_webs(5):
            self.told(web)

    def test_webs_of_rings_are_told(self):
        for ring in all_rings(3) + [ring for ring in all_rings(4) if len(ring) == 8][::29]:
            self.told(web_of(ring))
        for shift in range(18):
            seven = tuple(place for place in NINE_RING[shift:] + NINE_RING[:shift] if place < 7)
            self.told(web_of(seven))
            self.told(web_of(tuple(6 - place for place in seven)))

    def test_of_six_places_just_those_of_two_forms_are_not_told(self):
        none = 0
        for web in some_webs(6, 17):
            if is_wheel_or_prism(web):
                self.assertIsNone(ring_of(web))
                none += 1
            else:
                self.told(web)
        self.assertGreater(none, 0)

    def test_a_wheel_of_five_has_none(self):
        self.assertIsNone(ring_of(WHEEL))
        self.assertIsNone(ring_of(PRISM))
        for order in ((5, 4, 3, 2, 1, 0), (1, 3, 5, 0, 2, 4), (2, 0, 1, 4, 3, 5)):
            self.assertIsNone(ring_of(named(WHEEL, order)))
            self.assertIsNone(ring_of(named(PRISM, order)))

    def test_no_six_chords_are_a_wheel(self):
        rings = [ring_of_chords(pairs) for pairs in chords(tuple(range(12)))]
        self.assertEqual(len(rings), 10395)
        for ring in rings:
            self.assertNotEqual(degrees(web_of(ring)), [3, 3, 3, 3, 3, 5])

    def test_what_holds_a_wheel_has_none(self):
        for number in range(64):
            more = tuple((place, 6) for place in range(6) if number >> place & 1)
            web = (7, tuple(sorted(WHEEL[1] + more)))
            self.assertIsNone(ring_of(web))
            self.assertIsNone(ring_of(named(web, (6, 3, 1, 0, 5, 2, 4))))

    def test_the_cube_has_none_though_all_that_is_kept_of_it_has_one(self):
        self.assertIsNone(ring_of(CUBE))
        for side in all_sides(7):
            if 0 < len(side) < 7:
                self.told(kept(CUBE, side))

    def test_a_web_is_told_where_all_its_pieces_are(self):
        for web in some_webs(7, 9973) + [(7, WHEEL[1]), (7, PRISM[1]), (7, ((0, 1), (2, 3), (3, 4), (5, 6)))]:
            each = [ring_of(kept(web, piece)) is not None for piece in pieces(web)]
            self.assertIs(ring_of(web) is not None, all(each))

    def test_what_is_kept_of_a_told_one_is_told(self):
        for web in some_webs(7, 40009):
            ring = ring_of(web)
            if ring is not None:
                self.assertEqual(web_of(ring), web)
                for side in all_sides(7)[1:]:
                    self.told(kept(web, side))

    def test_it_stays_when_the_web_is_turned(self):
        for web in some_webs(7, 40009) + [WHEEL, CUBE]:
            for place in range(web[0]):
                self.assertIs(ring_of(web_turned(web, place)) is None, ring_of(web) is None)

    def test_more_than_seven_places(self):
        for web in ((8, ()), round_web(8), (8, tuple(all_pairs(8))), (9, ()), web_of(NINE_RING), (10, ())):
            with self.assertRaises(TooMany) as caught:
                ring_of(web)
            self.assertIs(type(caught.exception), TooMany)

    def test_asked_again_the_same_is_told(self):
        webs = some_webs(6, 1009) + some_webs(7, 99991)
        first = [ring_of(web) for web in webs]
        self.assertEqual([ring_of(web) for web in reversed(webs)], first[::-1])


if __name__ == "__main__":
    unittest.main()
