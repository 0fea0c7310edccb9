import copy
import unittest
from itertools import permutations, product

from chordwebs.rings import is_ring, least, mirrored, named_ring, same, turned_round, web_of, without
from chordwebs.webs import is_web, kept, named
from samples import NO_USE, all_pairs, all_rings, all_turnings, plainly_cross

THREE = all_rings(3)
FOUR = [ring for ring in all_rings(4) if len(ring) == 8]
SOME_FOUR = FOUR[::7]
NINE = (0, 1, 2, 3, 4, 5, 6, 7, 8, 4, 0, 8, 2, 1, 7, 5, 3, 6)
ALL_CROSS = tuple(range(9)) * 2
NONE_CROSS = tuple(range(9)) + tuple(range(8, -1, -1))


class IsRing(unittest.TestCase):
    def yes(self, thing):
        self.assertIs(is_ring(thing), True, repr(thing))

    def no(self, thing):
        self.assertIs(is_ring(thing), False, repr(thing))

    def test_small_rings(self):
        self.assertEqual((len(THREE), len(FOUR)), (1 + 6 + 90, 2520))
        for ring in THREE + FOUR:
            self.yes(ring)

    def test_the_counts_of_places(self):
        for many in range(1, 10):
            self.yes(tuple(range(many)) * 2)
            self.yes(tuple(range(many)) + tuple(range(many - 1, -1, -1)))
        self.yes(NINE)
        self.no(())
        for many in (10, 11, 20):
            self.no(tuple(range(many)) * 2)

    def test_each_number_stands_twice(self):
        wrong = (
            (0,), (0, 1), (0, 0, 0), (0, 0, 0, 0), (0, 0, 1), (0, 1, 1), (0, 1, 0), (0, 0, 0, 1), (0, 1, 1, 1),
            (0, 0, 1, 1, 1), (0, 0, 0, 1, 1, 1), (0, 1, 2, 0, 1, 1), (0, 0, 1, 1, 2), (0, 1, 2), (0, 0, 1, 1, 0, 0),
            NINE[1:], NINE + (8,), NINE[:-1] + (0,), NINE + (0, 0),
        )
        for thing in wrong:
            self.no(thing)

    def test_each_number_is_below_many_and_from_nought_on(self):
        for thing in ((1, 1), (2, 2), (-1, -1), (0, 0, 2, 2), (1, 1, 2, 2), (0, -1, 0, -1), (-1, -1, 0, 0, 1, 1),
                      (0, 0, 10 ** 40, 10 ** 40), (9, 9), tuple(range(1, 10)) * 2, (0, 2, 0, 2), (0, 0, 1, -1)):
            self.no(thing)

    def test_each_is_a_whole_number(self):
        for thing in ((False, False), (0, False), (False, 0), (True, True, 0, 0), (0, 1, 0, True), (0, True, 0, 1),
                      (False, 1, 0, 1), ("0", "0"), (0, "0"), ("a", "a"), (None, None), (0, None), (0, 0, None, None),
                      ((0,), (0,)), ((0, 0),), ([0], [0]), (0, [0]), ({}, {}), (0, 0, "1", "1"), (0, 1, [], {})):
            self.no(thing)

    def test_a_ring_is_a_tuple(self):
        for thing in ([0, 0], [0, 1, 0, 1], {0: 0}, "00", "0 0", 0, 2, None, True, False, list(NINE), [(0, 0)]):
            self.no(thing)

    def test_of_anything(self):
        for thing in NO_USE:
            self.no(thing)
            self.no((thing,))
            self.no([thing, thing])
            self.no((0, 0, thing))
            self.no((0, 0, thing, None))
            self.no((thing, "", thing, ""))

    def test_just_the_right_ones_of_all_small_things(self):
        for size, right in ((1, 0), (2, 1), (3, 0), (4, 6), (5, 0), (6, 90)):
            told = [thing for thing in product(range(-1, 4), repeat=size) if is_ring(thing)]
            self.assertEqual(told, sorted(ring for ring in THREE if len(ring) == size))
            self.assertEqual(len(told), right)

    def test_what_is_handed_in_stays(self):
        for thing in ([0, 0], ([0], [0]), (0, {1: [0]}), [[1, 0], (1, [0])]):
            before = copy.deepcopy(thing)
            self.no(thing)
            self.no(thing)
            self.assertEqual(repr(thing), repr(before))


class WebOf(unittest.TestCase):
    def test_one_place(self):
        self.assertEqual(web_of((0, 0)), (1, ()))

    def test_all_cross(self):
        self.assertEqual(web_of((0, 1, 0, 1)), (2, ((0, 1),)))
        self.assertEqual(web_of((2, 0, 1, 2, 0, 1)), (3, ((0, 1), (0, 2), (1, 2))))
        self.assertEqual(web_of(ALL_CROSS), (9, tuple(all_pairs(9))))

    def test_none_cross(self):
        for ring in ((0, 0, 1, 1), (0, 1, 1, 0), (1, 0, 0, 1), (1, 1, 0, 0)):
            self.assertEqual(web_of(ring), (2, ()))
        self.assertEqual(web_of(NONE_CROSS), (9, ()))
        self.assertEqual(web_of((0, 0, 1, 1, 2, 2, 3, 3)), (4, ()))

    def test_some_cross(self):
        self.assertEqual(web_of((0, 1, 0, 2, 1, 2)), (3, ((0, 1), (1, 2))))
        self.assertEqual(web_of((2, 0, 2, 1, 0, 1)), (3, ((0, 1), (0, 2))))
        self.assertEqual(web_of((0, 1, 2, 1, 0, 2)), (3, ((0, 2), (1, 2))))
        self.assertEqual(web_of((0, 1, 0, 2, 1, 3, 2, 3)), (4, ((0, 1), (1, 2), (2, 3))))
        self.assertEqual(web_of((3, 3, 2, 0, 2, 1, 0, 1)), (4, ((0, 1), (0, 2))))

    def test_in_small_rings(self):
        for ring in THREE + FOUR + [NINE]:
            web = web_of(ring)
            self.assertIs(is_web(web), True)
            self.assertEqual(web[0], len(ring) // 2)
            for one, other in all_pairs(web[0]):
                self.assertEqual((one, other) in web[1], plainly_cross(ring, one, other))


class Turned(unittest.TestCase):
    def test_turned_round(self):
        ring = (0, 1, 0, 2, 1, 2)
        self.assertEqual(turned_round(ring, 0), ring)
        self.assertEqual(turned_round(ring, 1), (1, 0, 2, 1, 2, 0))
        self.assertEqual(turned_round(ring, 3), (2, 1, 2, 0, 1, 0))
        self.assertEqual(turned_round(ring, 5), (2, 0, 1, 0, 2, 1))
        self.assertEqual(turned_round((0, 0), 0), (0, 0))
        self.assertEqual(turned_round((0, 0), 1), (0, 0))
        self.assertEqual(turned_round(NINE, 17), (6,) + NINE[:17])

    def test_turned_round_in_small_rings(self):
        for ring in THREE + [NINE]:
            for by in range(len(ring)):
                self.assertEqual(turned_round(ring, by), all_turnings(ring)[by])

    def test_mirrored(self):
        self.assertEqual(mirrored((0, 0)), (0, 0))
        self.assertEqual(mirrored((0, 1, 0, 2, 1, 2)), (2, 1, 2, 0, 1, 0))
        for ring in THREE + [NINE]:
            told = mirrored(ring)
            self.assertIs(is_ring(told), True)
            self.assertEqual([told[-1 - k] for k in range(len(ring))], list(ring))
            self.assertEqual(mirrored(told), ring)

    def test_least(self):
        self.assertEqual(least((0, 0)), (0, 0))
        self.assertEqual(least((1, 0, 1, 0)), (0, 1, 0, 1))
        self.assertEqual(least((1, 1, 0, 0)), (0, 0, 1, 1))
        self.assertEqual(least((0, 1, 1, 0)), (0, 0, 1, 1))
        self.assertEqual(least((2, 2, 1, 1, 0, 0)), (0, 0, 1, 1, 2, 2))

    def test_least_may_be_the_mirrored_one(self):
        # Turned round alone, this comes to (0, 0, 2, 2, 1, 1) at the least.
        self.assertEqual(least((0, 0, 2, 2, 1, 1)), (0, 0, 1, 1, 2, 2))

    def test_least_in_small_rings(self):
        for ring in THREE + FOUR + [NINE, ALL_CROSS, NONE_CROSS]:
            turnings = all_turnings(ring)
            told = least(ring)
            self.assertEqual(told, min(turnings))
            self.assertEqual(least(told), told)

    def test_least_is_one_for_all_turnings(self):
        for ring in THREE + SOME_FOUR + [NINE]:
            self.assertEqual({least(turning) for turning in all_turnings(ring)}, {least(ring)})

    def test_same(self):
        self.assertIs(same((0, 1, 0, 1), (1, 0, 1, 0)), True)
        self.assertIs(same((0, 0, 1, 1), (0, 1, 1, 0)), True)
        self.assertIs(same((0, 0, 2, 2, 1, 1), (0, 0, 1, 1, 2, 2)), True)
        self.assertIs(same(NINE, mirrored(NINE)), True)
        self.assertIs(same(NINE, NINE), True)
        self.assertIs(same((0, 1, 0, 1), (0, 0, 1, 1)), False)
        self.assertIs(same((0, 0), (0, 0, 1, 1)), False)
        self.assertIs(same((0, 1, 0, 2, 1, 2), (1, 0, 1, 2, 0, 2)), False)

    def test_one_web_may_have_rings_that_are_not_the_same(self):
        one = (0, 0, 1, 1, 2, 2)
        for other in ((0, 1, 1, 0, 2, 2), (0, 0, 1, 2, 2, 1)):
            self.assertEqual(web_of(one), web_of(other))
            self.assertIs(same(one, other), False)

    def test_same_of_all_small_rings(self):
        for one in THREE:
            turnings = all_turnings(one)
            for other in THREE:
                self.assertIs(same(one, other), other in turnings)

    def test_rings_that_are_the_same_tell_the_same_web(self):
        for ring in THREE + SOME_FOUR + [NINE, ALL_CROSS, NONE_CROSS]:
            web = web_of(ring)
            for turning in all_turnings(ring):
                self.assertEqual(web_of(turning), web)
            self.assertEqual(web_of(least(ring)), web)


class NamedAnew(unittest.TestCase):
    def test_named_ring(self):
        self.assertEqual(named_ring((0, 0), (0,)), (0, 0))
        self.assertEqual(named_ring((0, 1, 0, 2, 1, 2), (0, 1, 2)), (0, 1, 0, 2, 1, 2))
        self.assertEqual(named_ring((0, 1, 0, 2, 1, 2), (1, 2, 0)), (2, 0, 2, 1, 0, 1))
        self.assertEqual(named_ring(ALL_CROSS, (8, 7, 6, 5, 4, 3, 2, 1, 0)), (8, 7, 6, 5, 4, 3, 2, 1, 0) * 2)

    def test_named_ring_in_small_rings(self):
        for ring in THREE + SOME_FOUR:
            for order in permutations(range(len(ring) // 2)):
                told = named_ring(ring, order)
                self.assertIs(is_ring(told), True)
                self.assertEqual(tuple(order[place] for place in told), ring)
                self.assertEqual(web_of(told), named(web_of(ring), order))

    def test_without(self):
        ring = (0, 1, 0, 2, 1, 2)
        self.assertEqual(without(ring, ()), ring)
        self.assertEqual(without(ring, (0,)), (0, 1, 0, 1))
        self.assertEqual(without(ring, (1,)), (0, 0, 1, 1))
        self.assertEqual(without(ring, (2,)), (0, 1, 0, 1))
        self.assertEqual(without(ring, (2, 0)), (0, 0))
        self.assertEqual(without((0, 0), ()), (0, 0))
        self.assertEqual(without((2, 0, 2, 1, 0, 1), (0,)), (1, 1, 0, 0))
        self.assertEqual(without(NINE, (8, 0, 3, 2, 4, 7)), (0, 1, 2, 0, 1, 2))
        self.assertEqual(without(NINE, (7, 6, 5, 4, 3, 2, 1, 0)), (0, 0))

    def test_without_in_small_rings(self):
        for ring in THREE + SOME_FOUR:
            many = len(ring) // 2
            for count in range(many):
                for places in permutations(range(many), count):
                    others = tuple(place for place in range(many) if place not in places)
                    told = without(ring, places)
                    self.assertIs(is_ring(told), True)
                    self.assertEqual(tuple(others[k] for k in told), tuple(k for k in ring if k in others))
                    self.assertEqual(web_of(told), kept(web_of(ring), others))


class SomewhatBeyond(unittest.TestCase):
    def test_nothing_is_refused_for_it(self):
        ring = tuple(range(9, -1, -1)) * 2
        self.assertEqual(web_of(ring), (10, tuple(all_pairs(10))))
        self.assertEqual(least(ring), tuple(range(10)) * 2)
        self.assertEqual(mirrored(ring), tuple(range(10)) * 2)
        self.assertIs(same(ring, turned_round(ring, 19)), True)
        self.assertEqual(named_ring(ring, tuple(range(9, -1, -1))), tuple(range(10)) * 2)
        self.assertEqual(without(ring, (9,)), tuple(range(8, -1, -1)) * 2)


class AskedAgain(unittest.TestCase):
    def test_the_same_is_told(self):
        asks = (
            (is_ring, NINE), (web_of, NINE), (turned_round, NINE, 5), (mirrored, NINE), (least, NINE),
            (same, NINE, ALL_CROSS), (named_ring, NINE, (4, 3, 2, 1, 0, 8, 7, 6, 5)), (without, NINE, (5, 1)),
        )
        first = [ask[0](*ask[1:]) for ask in asks]
        for ring in SOME_FOUR:
            least(ring)
            web_of(ring)
        self.assertEqual([ask[0](*ask[1:]) for ask in asks], first)
        self.assertEqual(NINE, (0, 1, 2, 3, 4, 5, 6, 7, 8, 4, 0, 8, 2, 1, 7, 5, 3, 6))


if __name__ == "__main__":
    unittest.main()
