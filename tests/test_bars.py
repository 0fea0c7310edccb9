import copy
import unittest
from itertools import permutations

from chordwebs.bars import bar_holds, bar_of, bar_web
from chordwebs.errors import TooMany
from chordwebs.found import ring_of
from chordwebs.turns import web_turned
from chordwebs.webs import is_web, kept, named
from samples import NO_USE, all_pairs, all_webs, plainly_turned, round_web, some_webs

WHEEL5 = (6, ((0, 1), (0, 2), (0, 3), (0, 4), (0, 5), (1, 2), (1, 5), (2, 3), (3, 4), (4, 5)))
WHEEL7 = (8, ((0, 1), (0, 2), (0, 3), (0, 4), (0, 5), (0, 6), (0, 7),
              (1, 2), (1, 7), (2, 3), (3, 4), (4, 5), (5, 6), (6, 7)))
CUBE7 = (7, ((0, 1), (0, 3), (0, 5), (1, 2), (1, 6), (2, 3), (3, 4), (4, 5), (5, 6)))
SIX = (0, 1, 2, 3, 4, 5)
SEVEN = SIX + (6,)
EIGHT = SEVEN + (7,)


def turned_at(web, turns):
    for place in turns:
        web = plainly_turned(web, place)
    return web


def plainly_right(web, turns, places):
    return kept(turned_at(web, turns), places) in (WHEEL5, WHEEL7, CUBE7)


class BarWeb(unittest.TestCase):
    def test_the_three_webs(self):
        self.assertEqual(bar_web("wheel5"), WHEEL5)
        self.assertEqual(bar_web("wheel7"), WHEEL7)
        self.assertEqual(bar_web("cube7"), CUBE7)
        for word in ("wheel5", "wheel7", "cube7"):
            self.assertIs(is_web(bar_web(word)), True)


class BarHolds(unittest.TestCase):
    def yes(self, web, thing):
        self.assertIs(bar_holds(web, thing), True, repr((web, thing)))

    def no(self, web, thing):
        self.assertIs(bar_holds(web, thing), False, repr((web, thing)))

    def test_the_three_webs_of_themselves(self):
        self.yes(WHEEL5, ((), SIX))
        self.yes(WHEEL7, ((), EIGHT))
        self.yes(CUBE7, ((), SEVEN))

    def test_the_order_of_the_places_counts(self):
        right = [order for order in permutations(SIX) if bar_holds(WHEEL5, ((), order))]
        self.assertEqual(right, [order for order in permutations(SIX) if named(WHEEL5, order) == WHEEL5])
        self.assertEqual(len(right), 10)
        self.yes(WHEEL5, ((), (0, 2, 3, 4, 5, 1)))
        self.no(WHEEL5, ((), (1, 0, 2, 3, 4, 5)))
        self.yes(CUBE7, ((), (0, 3, 4, 5, 6, 1, 2)))
        self.no(CUBE7, ((), (0, 2, 3, 4, 5, 6, 1)))

    def test_other_counts_of_places(self):
        for places in ((), (0,), (0, 1, 2), (0, 1, 2, 3, 4)):
            self.no(WHEEL5, ((), places))
            self.no(WHEEL7, ((), places))
        self.no(WHEEL7, ((), SIX))
        self.no(WHEEL7, ((), SEVEN))
        self.no(CUBE7, ((), SIX))

    def test_kept_of_a_greater_web(self):
        self.yes((9, WHEEL7[1] + ((7, 8),)), ((), EIGHT))
        self.yes((9, CUBE7[1] + ((6, 8), (7, 8))), ((), SEVEN))
        self.yes((10, WHEEL5[1] + ((8, 9),)), ((), SIX))
        web = named((9, WHEEL5[1] + ((5, 6), (6, 7), (6, 8))), (8, 7, 6, 5, 4, 3, 2, 1, 0))
        self.yes(web, ((), (8, 7, 6, 5, 4, 3)))
        self.no(web, ((), (3, 4, 5, 6, 7, 8)))

    def test_turns_one_behind_the_other(self):
        for bar, turns in ((WHEEL5, (1, 0, 3)), (WHEEL7, (3, 5, 2, 0)), (CUBE7, (0, 2, 1, 6)), (CUBE7, (4,))):
            web = turned_at(bar, turns)
            places = tuple(range(bar[0]))
            self.assertNotEqual(web, bar)
            self.yes(web, (turns[::-1], places))
            self.no(web, ((), places))
            self.assertIs(bar_holds(web, (turns, places)), plainly_right(web, turns, places))
        web = turned_at(WHEEL7, (0, 1, 5))
        self.yes(web, ((5, 1, 0), EIGHT))
        self.no(web, ((0, 1, 5), EIGHT))

    def test_small_turns_and_orders(self):
        web = turned_at(WHEEL5, (1, 4))
        for turns in [()] + [(place,) for place in SIX] + list(permutations(SIX, 2)):
            for places in list(permutations(SIX))[::37] + [(0, 1, 2, 3, 4, 5)]:
                self.assertIs(bar_holds(web, (turns, places)), plainly_right(web, turns, places))

    def test_at_most_two_hundred_turns(self):
        self.yes(WHEEL5, ((0,) * 200, SIX))
        self.yes(WHEEL5, ((0, 0) * 99 + (3, 3), SIX))
        self.yes(web_turned(WHEEL5, 2), ((2,) * 199, SIX))
        self.no(WHEEL5, ((0,) * 199, SIX))
        self.no(web_turned(WHEEL5, 2), ((2,) * 201, SIX))
        self.no(WHEEL5, ((0,) * 202, SIX))
        self.no(WHEEL5, ((0,) * 400, SIX))
        self.no(WHEEL5, ((0,) * 20000, SIX))

    def test_turns_are_places_of_the_web(self):
        for place in (6, 7, -1, -6, 10 ** 40, True, False, None, "0", "", (0,), [0], {}, ()):
            self.no(WHEEL5, ((place,), SIX))
            self.no(WHEEL5, ((place, place), SIX))
            self.no(WHEEL5, ((0, 0, place, place), SIX))

    def test_places_are_unlike_places_of_the_web(self):
        for places in ((0, 1, 2, 3, 4, 4), (0, 1, 2, 3, 4, 5, 5), (0, 0, 1, 2, 3, 4, 5), (0, 1, 2, 3, 4, 6),
                       (0, 1, 2, 3, 4, -1), (-6, 1, 2, 3, 4, 5), (False, 1, 2, 3, 4, 5), (0, True, 2, 3, 4, 5),
                       ("0", 1, 2, 3, 4, 5), (0, 1, 2, 3, 4, "5"), (0, 1, 2, 3, 4, None), (0, 1, 2, 3, 4, [5]),
                       ([0], [1], [2], [3], [4], [5]), (0, 1, 2, 3, 4, (5,)), (0, 1, 2, 3, 4, 10 ** 40)):
            self.no(WHEEL5, ((), places))

    def test_other_kinds(self):
        self.no(WHEEL5, [(), SIX])
        self.no(WHEEL5, ([], SIX))
        self.no(WHEEL5, ((), list(SIX)))
        self.no(WHEEL5, ([0, 0], SIX))
        self.no(WHEEL5, ((), "012345"))
        self.no(WHEEL5, ("", SIX))
        self.no(WHEEL5, (None, SIX))
        self.no(WHEEL5, (0, SIX))
        self.no(WHEEL5, ((), {place: place for place in SIX}))
        self.no(WHEEL5, ({}, SIX))
        self.no(WHEEL5, {(): SIX})
        for thing in ((), (SIX,), ((), SIX, ()), ((), (), SIX), (SIX, ()), SIX, (((), SIX),), [((), SIX)], "wheel5"):
            self.no(WHEEL5, thing)

    def test_of_anything(self):
        for web in (WHEEL5, CUBE7, WHEEL7, (1, ())):
            for thing in NO_USE:
                self.no(web, thing)
                self.no(web, (thing,))
                self.no(web, (thing, thing))
                self.no(web, ((), thing))
                self.no(web, ((thing,), SIX))
                self.no(web, ((), (thing,) * 6))
                self.no(web, ((), SIX[1:] + (thing,)))
                self.no(web, [thing, SIX])
                self.no(web, ((), SIX, thing))

    def test_anything_in_the_place_of_the_turns(self):
        for thing in NO_USE:
            # Of these only the tuple of nothing is one of places.
            right = isinstance(thing, tuple) and len(thing) == 0
            self.assertIs(bar_holds(WHEEL5, (thing, SIX)), right, repr(thing))

    def test_a_web_that_is_told_has_none(self):
        for web in all_webs(4) + [(6, ()), round_web(6), (7, tuple(all_pairs(7))), round_web(9)]:
            places = tuple(range(web[0]))
            self.no(web, ((), places))
            self.no(web, ((), places[:6]))
            self.no(web, (places, places[:7]))

    def test_what_is_handed_in_stays(self):
        thing = ([0, 0], [[0, 1], {2: [3]}])
        before = copy.deepcopy(thing)
        self.no(WHEEL5, thing)
        self.assertEqual(thing, before)


class BarOf(unittest.TestCase):
    def barred(self, web):
        bar = bar_of(web)
        self.assertIsInstance(bar, tuple, repr(web))
        turns, places = bar
        self.assertIs(bar_holds(web, bar), True)
        self.assertLessEqual(len(turns), 200)
        self.assertTrue(all(0 <= place < web[0] for place in turns + places))
        self.assertEqual(len(set(places)), len(places))
        self.assertTrue(plainly_right(web, turns, places))

    def test_the_webs_that_are_bars(self):
        self.barred(WHEEL5)
        self.barred(CUBE7)
        self.barred((7, WHEEL5[1]))
        self.barred(named(WHEEL5, (3, 1, 5, 0, 2, 4)))
        self.barred(named(CUBE7, (3, 1, 5, 0, 2, 4, 6)))

    def test_they_turned(self):
        for turns in ((1,), (0,), (1, 0), (1, 2), (5, 3, 1), (4, 4), (2, 0, 5, 1)):
            self.barred(turned_at(WHEEL5, turns))
            self.barred(turned_at(CUBE7, turns))
            self.barred(turned_at((7, WHEEL5[1] + ((5, 6),)), turns))
            self.barred(turned_at(CUBE7, turns + (6,)))

    def test_a_wheel_and_one_place_more(self):
        for number in range(64):
            more = tuple((place, 6) for place in range(6) if number >> place & 1)
            web = (7, tuple(sorted(WHEEL5[1] + more)))
            self.barred(web)
            self.barred(web_turned(web_turned(web, 6), 1))

    def test_a_bar_just_where_there_is_no_ring(self):
        barred = 0
        for web in all_webs(4) + some_webs(5, 11) + some_webs(6, 13) + some_webs(7, 2999):
            if ring_of(web) is None:
                self.barred(web)
                barred += 1
            else:
                self.assertIsNone(bar_of(web))
        self.assertGreater(barred, 50)

    def test_none_of_a_web_that_is_told(self):
        for many in range(1, 8):
            self.assertIsNone(bar_of((many, ())))
            self.assertIsNone(bar_of((many, tuple(all_pairs(many)))))
        for many in range(3, 8):
            self.assertIsNone(bar_of(round_web(many)))

    def test_more_than_seven_places(self):
        for web in ((8, ()), WHEEL7, (8, WHEEL5[1]), (9, ()), (9, CUBE7[1]), (10, ())):
            with self.assertRaises(TooMany) as caught:
                bar_of(web)
            self.assertIs(type(caught.exception), TooMany)

    def test_asked_again_the_same_is_told(self):
        webs = [WHEEL5, CUBE7, turned_at(CUBE7, (0, 1)), round_web(6)]
        first = [bar_of(web) for web in webs]
        self.assertEqual([bar_of(web) for web in reversed(webs)], first[::-1])


if __name__ == "__main__":
    unittest.main()
