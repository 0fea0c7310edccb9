import copy
import unittest
from itertools import product

from chordwebs.found import ring_of
from chordwebs.rings import least, mirrored, turned_round, web_of
from chordwebs.rows import are_apart, are_layers, are_together, fewest_layers, most_apart, most_in, most_together
from samples import NO_USE, all_pairs, all_rings, all_sides, plainly_cross, round_web, some_webs

THREE = all_rings(3)
SOME_FOUR = [ring for ring in all_rings(4) if len(ring) == 8][::23]
NINE = (0, 1, 2, 3, 4, 5, 6, 7, 8, 4, 0, 8, 2, 1, 7, 5, 3, 6)
ALL_CROSS = tuple(range(9)) * 2
NONE_CROSS = tuple(range(9)) + tuple(range(8, -1, -1))
ROUND_FIVE = (0, 1, 4, 0, 3, 4, 2, 3, 1, 2)
LARGE = [ring for ring in [ring_of(web) for web in some_webs(6, 3001) + some_webs(7, 250007)] if ring is not None]
NINES = [NINE, NONE_CROSS, ALL_CROSS, (8, 7, 8, 6, 7, 5, 6, 4, 5, 3, 4, 2, 3, 1, 2, 0, 1, 0),
         (0, 1, 8, 0, 7, 8, 6, 7, 5, 6, 4, 5, 3, 4, 2, 3, 1, 2), (3, 0, 5, 1, 3, 8, 2, 0, 7, 5, 4, 1, 6, 8, 2, 4, 7,
         6)]


def plainly_apart(ring, places):
    return not any(plainly_cross(ring, places[k], places[j]) for k, j in all_pairs(len(places)))


def plainly_together(ring, places):
    return all(plainly_cross(ring, places[k], places[j]) for k, j in all_pairs(len(places)))


def plain_most(ring, holds):
    right = [side for side in all_sides(len(ring) // 2) if holds(ring, side)]
    return min(right, key=lambda side: (-len(side), side))


def plainly_layers(ring, row):
    return not any(row[k] == row[j] and plainly_cross(ring, k, j) for k, j in all_pairs(len(ring) // 2))


def plain_fewest(ring):
    """The first one of all rows of layers, as they have more numbers and as they rise."""
    rows = [()]
    for _ in range(len(ring) // 2):
        rows = [row + (layer,) for row in rows for layer in range(max(row, default=-1) + 2)]
    rows.sort(key=lambda row: (len(set(row)), row))
    for row in rows:
        if plainly_layers(ring, row):
            return row


class Apart(unittest.TestCase):
    def asked(self, ring, thing, apart, together):
        self.assertIs(are_apart(ring, thing), apart, repr(thing))
        self.assertIs(are_together(ring, thing), together, repr(thing))

    def test_of_none_and_of_one(self):
        for ring in THREE + NINES:
            self.asked(ring, (), True, True)
            for place in range(len(ring) // 2):
                self.asked(ring, (place,), True, True)

    def test_of_two_and_more(self):
        ring = (0, 1, 0, 2, 1, 2)
        self.asked(ring, (0, 1), False, True)
        self.asked(ring, (1, 2), False, True)
        self.asked(ring, (0, 2), True, False)
        self.asked(ring, (0, 1, 2), False, False)
        self.asked(ALL_CROSS, tuple(range(9)), False, True)
        self.asked(NONE_CROSS, tuple(range(9)), True, False)

    def test_all_sides_of_rings(self):
        for ring in THREE + SOME_FOUR + LARGE + NINES:
            for side in all_sides(len(ring) // 2):
                self.asked(ring, side, plainly_apart(ring, side), plainly_together(ring, side))

    def test_a_place_twice_and_places_that_fall(self):
        for ring in (NONE_CROSS, ALL_CROSS):
            for thing in ((0, 0), (3, 3), (1, 0), (8, 0), (0, 2, 1), (0, 1, 1), (0, 0, 1), (2, 1, 0), (0, 1, 2, 0),
                          (7, 8, 8), tuple(range(8, -1, -1)), tuple(range(9)) * 2):
                self.asked(ring, thing, False, False)

    def test_places_beyond_and_below_nought(self):
        for ring in (NONE_CROSS, ALL_CROSS):
            for thing in ((9,), (-1,), (0, 9), (-1, 0), (-9, 1), (8, 9), (10 ** 40,), (0, 10 ** 40), (-10 ** 40, 0)):
                self.asked(ring, thing, False, False)
        for ring in THREE + SOME_FOUR:
            many = len(ring) // 2
            for thing in ((many,), (0, many), (-1,), (-1, 0), tuple(range(many + 1)), tuple(range(-1, many))):
                self.asked(ring, thing, False, False)

    def test_what_is_no_tuple_of_numbers(self):
        for ring in ((0, 0), (0, 1, 0, 1), (0, 0, 1, 1), NONE_CROSS, ALL_CROSS):
            for thing in ((True,), (False,), (False, True), (0, True), (False, 1), (None,), (0, None), ("0",),
                          ("0", "1"), ((),), ((0,),), ([0],), ({},), ({0: 1},), ([0], [1]), (0, [1]), (0, "1"), [],
                          [0], [0, 1], {}, {0: 1}, "", "0", "01", None, True, False, 0, 1, -1):
                self.asked(ring, thing, False, False)

    def test_of_anything(self):
        for ring in ((0, 0), NINE, NONE_CROSS, ALL_CROSS):
            for thing in NO_USE:
                none = isinstance(thing, tuple) and len(thing) == 0
                self.asked(ring, thing, none, none)
                self.asked(ring, [thing], False, False)
                self.asked(ring, (8, thing), False, False)
                self.asked(ring, (thing, 8, 8), False, False)
                if not isinstance(thing, int) or isinstance(thing, bool):
                    self.asked(ring, (thing,), False, False)

    def test_what_is_handed_in_stays(self):
        for thing in ([0, 1], [[0]], (0, [1, {2: [3]}])):
            before = copy.deepcopy(thing)
            self.asked(NINE, thing, False, False)
            self.assertEqual(thing, before)


class Most(unittest.TestCase):
    def test_some(self):
        self.assertEqual((most_apart((0, 0)), most_together((0, 0))), ((0,), (0,)))
        self.assertEqual((most_apart((0, 1, 0, 1)), most_together((0, 1, 0, 1))), ((0,), (0, 1)))
        self.assertEqual((most_apart((0, 0, 1, 1)), most_together((0, 0, 1, 1))), ((0, 1), (0,)))
        self.assertEqual((most_apart(ALL_CROSS), most_together(ALL_CROSS)), ((0,), tuple(range(9))))
        self.assertEqual((most_apart(NONE_CROSS), most_together(NONE_CROSS)), (tuple(range(9)), (0,)))
        self.assertEqual((most_apart(ROUND_FIVE), most_together(ROUND_FIVE)), ((0, 2), (0, 1)))

    def test_of_several_the_least(self):
        # Apart in the one, and together in the other, are (0, 2) and (1, 2).
        self.assertEqual(most_apart((0, 1, 0, 2, 2, 1)), (0, 2))
        self.assertEqual(most_together((0, 2, 0, 1, 2, 1)), (0, 2))

    def test_the_greatest_without_nought(self):
        # 0 crosses all others, which are apart; then 0 crosses none, and the others all cross.
        self.assertEqual(most_apart((0, 1, 2, 3, 0, 3, 2, 1)), (1, 2, 3))
        self.assertEqual(most_together((0, 0, 1, 2, 3, 1, 2, 3)), (1, 2, 3))

    def test_all_small_rings_and_some_great_ones(self):
        for ring in THREE + SOME_FOUR + LARGE + NINES:
            self.assertEqual(most_apart(ring), plain_most(ring, plainly_apart))
            self.assertEqual(most_together(ring), plain_most(ring, plainly_together))

    def test_one_for_all_rings_that_are_the_same(self):
        for by in range(18):
            for ring in (turned_round(NINE, by), mirrored(turned_round(NINE, by)), least(NINE)):
                self.assertEqual(most_apart(ring), most_apart(NINE))
                self.assertEqual(most_together(ring), most_together(NINE))


class MostIn(unittest.TestCase):
    def test_of_no_standings(self):
        for ring in THREE + NINES:
            for standing in range(len(ring) + 1):
                self.assertEqual(most_in(ring, standing, standing), 0)

    def test_of_one_standing(self):
        for standing in range(18):
            self.assertEqual(most_in(NINE, standing, standing + 1), 0)

    def test_of_all(self):
        for ring in THREE + SOME_FOUR + NINES:
            self.assertEqual(most_in(ring, 0, len(ring)), len(most_apart(ring)))

    def test_some(self):
        ring = (0, 1, 1, 0, 2, 3, 2, 3)
        self.assertEqual(most_in(ring, 0, 8), 3)
        self.assertEqual(most_in(ring, 0, 4), 2)
        self.assertEqual(most_in(ring, 1, 4), 1)
        self.assertEqual(most_in(ring, 1, 3), 1)
        self.assertEqual(most_in(ring, 0, 3), 1)
        self.assertEqual(most_in(ring, 2, 7), 1)
        self.assertEqual(most_in(ring, 2, 6), 0)
        self.assertEqual(most_in(ring, 4, 8), 1)
        self.assertEqual(most_in(ring, 5, 8), 1)
        self.assertEqual(most_in((0, 0), 0, 2), 1)
        self.assertEqual(most_in((0, 0), 0, 1), 0)
        self.assertEqual(most_in((0, 0), 1, 2), 0)
        self.assertEqual(most_in(NONE_CROSS, 3, 15), 6)
        self.assertEqual(most_in(NONE_CROSS, 3, 14), 5)
        self.assertEqual(most_in(ALL_CROSS, 0, 9), 0)
        self.assertEqual(most_in(ALL_CROSS, 0, 10), 1)
        self.assertEqual(most_in(ALL_CROSS, 0, 18), 1)

    def test_all_stretches(self):
        for ring in THREE + SOME_FOUR[::3] + LARGE[::4] + NINES[:1] + NINES[3:]:
            sides = [side for side in all_sides(len(ring) // 2) if plainly_apart(ring, side)]
            for first in range(len(ring) + 1):
                for last in range(first, len(ring) + 1):
                    inside = [side for side in sides if all(ring[first:last].count(place) == 2 for place in side)]
                    self.assertEqual(most_in(ring, first, last), max(len(side) for side in inside))

    def test_somewhat_beyond(self):
        self.assertEqual(most_in((0, 0, 1, 1), 0, 5), 2)
        self.assertEqual(most_in((0, 0, 1, 1), 2, 9), 1)
        self.assertEqual(most_in((0, 0, 1, 1), 4, 6), 0)
        self.assertEqual(most_in((0, 0, 1, 1), -1, 4), 2)
        self.assertEqual(most_in((0, 0, 1, 1), 3, 1), 0)


class Layers(unittest.TestCase):
    def yes(self, ring, thing):
        self.assertIs(are_layers(ring, thing), True, repr(thing))

    def no(self, ring, thing):
        self.assertIs(are_layers(ring, thing), False, repr(thing))

    def test_some(self):
        self.yes((0, 0), (0,))
        self.yes((0, 0), (7,))
        self.yes((0, 1, 0, 1), (0, 1))
        self.yes((0, 1, 0, 1), (5, 2))
        self.no((0, 1, 0, 1), (0, 0))
        self.no((0, 1, 0, 1), (3, 3))
        self.yes((0, 0, 1, 1), (0, 0))
        self.yes((0, 0, 1, 1), (3, 1))
        self.yes(NONE_CROSS, (4,) * 9)
        self.yes(ALL_CROSS, tuple(range(9)))
        self.yes(ALL_CROSS, tuple(range(8, -1, -1)))
        self.no(ALL_CROSS, (0, 1, 2, 3, 4, 5, 6, 7, 0))
        self.no(ALL_CROSS, (0, 1, 2, 3, 3, 5, 6, 7, 8))

    def test_great_numbers(self):
        self.yes((0, 1, 0, 1), (10 ** 60, 10 ** 60 + 1))
        self.no((0, 1, 0, 1), (10 ** 60, 10 ** 60))
        self.yes((0, 0, 1, 1), (10 ** 60, 10 ** 60))
        self.yes((0, 0), (10 ** 300,))

    def test_a_number_more_or_fewer(self):
        for ring in THREE + SOME_FOUR + NINES:
            many = len(ring) // 2
            self.yes(ring, tuple(range(many)))
            self.no(ring, tuple(range(many + 1)))
            self.no(ring, tuple(range(many - 1)))
            self.no(ring, tuple(range(many)) * 2)
            self.no(ring, ())

    def test_below_nought(self):
        for thing in ((-1, 0), (0, -1), (-1, -2), (-10 ** 40, 0)):
            self.no((0, 1, 0, 1), thing)
            self.no((0, 0, 1, 1), thing)

    def test_what_is_no_tuple_of_numbers(self):
        for ring in ((0, 1, 0, 1), (0, 0, 1, 1)):
            for thing in ((True, False), (0, True), (False, 1), (None, None), (0, None), ("0", "1"), (0, "1"),
                          ([], []), ([0], [1]), ((0,), (1,)), (0, (1,)), ({}, {}), (0, {1: 1}), ((0, 1),), [0, 1],
                          "01", {0: 0, 1: 1}, [(0, 1)], None, True, 2, 0):
                self.no(ring, thing)
        for thing in (0, [0], "0", (False,), (None,), ("0",), ([0],), ((0,),), {0: 0}, None, False):
            self.no((0, 0), thing)

    def test_of_anything(self):
        for thing in NO_USE:
            for ring in ((0, 0), (0, 0, 1, 1), NINE, NONE_CROSS):
                self.no(ring, thing)
                self.no(ring, [thing])
                self.no(ring, (thing,) * 10)
            if not isinstance(thing, int) or isinstance(thing, bool):
                self.no((0, 0), (thing,))
                self.no((0, 0, 1, 1), (0, thing))
                self.no((0, 0, 1, 1), (thing, thing))
                self.no(NONE_CROSS, (0,) * 8 + (thing,))

    def test_just_the_right_ones_of_all_small_things(self):
        for ring in THREE + SOME_FOUR[::5]:
            many = len(ring) // 2
            for size in range(many + 2):
                for thing in product(range(-1, 3), repeat=size):
                    right = size == many and -1 not in thing and plainly_layers(ring, thing)
                    self.assertIs(are_layers(ring, thing), right)

    def test_what_is_handed_in_stays(self):
        for thing in ([0, 1], ([0], {1: [0]}), (0, [[1]])):
            before = copy.deepcopy(thing)
            self.no((0, 0, 1, 1), thing)
            self.assertEqual(thing, before)


class FewestLayers(unittest.TestCase):
    def test_some(self):
        self.assertEqual(fewest_layers((0, 0)), (0,))
        self.assertEqual(fewest_layers((0, 0, 1, 1)), (0, 0))
        self.assertEqual(fewest_layers((0, 1, 0, 1)), (0, 1))
        self.assertEqual(fewest_layers((0, 1, 0, 2, 1, 2)), (0, 1, 0))
        self.assertEqual(fewest_layers(NONE_CROSS), (0,) * 9)
        self.assertEqual(fewest_layers(ALL_CROSS), tuple(range(9)))

    def test_what_goes_on_greedily_is_not_always_the_fewest(self):
        # A path with the ends 0 and 1: where these have one layer, there must be a third.
        ring = (0, 2, 0, 3, 2, 1, 3, 1)
        self.assertEqual(web_of(ring), (4, ((0, 2), (1, 3), (2, 3))))
        self.assertEqual(fewest_layers(ring), (0, 1, 1, 0))
        # With places apart from all others the fewest stay two, though more and more are apart.
        self.assertEqual(fewest_layers(ring + (4, 4)), (0, 1, 1, 0, 0))
        self.assertEqual(fewest_layers(ring + (4, 4, 5, 5, 6, 6)), (0, 1, 1, 0, 0, 0, 0))

    def test_just_one_more_than_are_together(self):
        # With two more there would be rows that are less.
        rows = (
            ((1, 4, 2, 1, 0, 5, 0, 3, 2, 6, 3, 5, 4, 6), (0, 0, 1, 0, 2, 2, 1), 2),
            ((4, 0, 2, 1, 3, 6, 2, 5, 3, 4, 6, 0, 5, 1), (0, 1, 0, 2, 2, 1, 3), 3),
            ((0, 7, 2, 0, 6, 3, 2, 4, 3, 7, 1, 1, 5, 4, 6, 5), (0, 0, 1, 0, 1, 2, 0, 2), 2),
        )
        for ring, row, together in rows:
            self.assertEqual(plain_fewest(ring), row)
            self.assertEqual(fewest_layers(ring), row)
            self.assertEqual(len(most_together(ring)), together)
            self.assertEqual(len(set(row)), together + 1)

    def test_there_may_be_more_than_are_together(self):
        self.assertEqual(web_of(ROUND_FIVE), round_web(5))
        self.assertEqual(len(most_together(ROUND_FIVE)), 2)
        self.assertEqual(fewest_layers(ROUND_FIVE), (0, 1, 0, 1, 2))

    def test_all_small_rings_and_some_great_ones(self):
        for ring in THREE + SOME_FOUR + LARGE:
            self.assertEqual(fewest_layers(ring), plain_fewest(ring))
        for ring in NINES:
            self.assertEqual(fewest_layers(ring), plain_fewest(ring))

    def test_its_numbers(self):
        for ring in THREE + SOME_FOUR + LARGE + NINES:
            row = fewest_layers(ring)
            self.assertIs(are_layers(ring, row), True)
            self.assertEqual(sorted(set(row)), list(range(max(row) + 1)))
            self.assertGreaterEqual(len(set(row)), len(most_together(ring)))


class SomewhatBeyond(unittest.TestCase):
    def test_nothing_is_refused_for_it(self):
        crossing = tuple(range(11)) * 2
        apart = tuple(range(11)) + tuple(range(10, -1, -1))
        self.assertEqual((most_apart(crossing), most_together(crossing)), ((0,), tuple(range(11))))
        self.assertEqual((most_apart(apart), most_together(apart)), (tuple(range(11)), (0,)))
        self.assertIs(are_apart(apart, tuple(range(11))), True)
        self.assertIs(are_together(crossing, tuple(range(11))), True)
        self.assertEqual((most_in(apart, 1, 21), most_in(crossing, 0, 22)), (10, 1))
        self.assertIs(are_layers(apart, (0,) * 11), True)
        self.assertEqual((fewest_layers(apart), fewest_layers(crossing)), ((0,) * 11, tuple(range(11))))


class AskedAgain(unittest.TestCase):
    def test_the_same_is_told(self):
        rings = NINES + LARGE[::5]
        first = [(most_apart(ring), most_together(ring), most_in(ring, 1, 9), fewest_layers(ring)) for ring in rings]
        again = [(most_apart(ring), most_together(ring), most_in(ring, 1, 9), fewest_layers(ring))
                 for ring in reversed(rings)]
        self.assertEqual(again, first[::-1])


if __name__ == "__main__":
    unittest.main()
