import unittest
from itertools import permutations, product

from chordwebs.errors import NoTie, TooMany
from chordwebs.rings import is_ring, web_of
from chordwebs.turns import all_turned, ring_turned, swapped, turns_to, web_turned
from chordwebs.webs import is_web
from samples import all_pairs, all_rings, all_webs, plainly_tied, plainly_turned, round_web, some_webs

SMALL = all_webs(4)
FIVE = some_webs(5, 7)
NINE = (9, ((0, 8), (1, 2), (1, 7), (2, 7), (3, 5), (5, 8)))
FULL_NINE = (9, tuple(all_pairs(9)))
LARGE = some_webs(6, 1501) + some_webs(7, 99991) + [NINE, FULL_NINE, round_web(9)]
RINGS = all_rings(3) + [ring for ring in all_rings(4) if len(ring) == 8][::7]
NINE_RING = (0, 1, 2, 3, 4, 5, 6, 7, 8, 4, 0, 8, 2, 1, 7, 5, 3, 6)
STAR = (3, ((0, 1), (0, 2)))


def all_come_to(web):
    reached = {web}
    ahead = [web]
    while ahead:
        turned = {plainly_turned(one, place) for one in ahead for place in range(web[0])}
        ahead = sorted(turned - reached)
        reached |= turned
    return reached


def least_lists(web):
    """For each web come to the least of the shortest lists, by trying all lists, shorter ones and lesser ones first."""
    lists = {web: []}
    length = 0
    longest = 0
    while length == longest:
        length += 1
        for turns in product(range(web[0]), repeat=length):
            turned = web
            for place in turns:
                turned = plainly_turned(turned, place)
            if turned not in lists:
                lists[turned] = list(turns)
                longest = length
    return lists


class WebTurned(unittest.TestCase):
    def test_some(self):
        self.assertEqual(web_turned((1, ()), 0), (1, ()))
        self.assertEqual(web_turned((2, ((0, 1),)), 0), (2, ((0, 1),)))
        self.assertEqual(web_turned(STAR, 0), (3, ((0, 1), (0, 2), (1, 2))))
        self.assertEqual(web_turned(STAR, 1), STAR)
        self.assertEqual(web_turned((3, ((0, 1), (0, 2), (1, 2))), 2), (3, ((0, 2), (1, 2))))
        self.assertEqual(web_turned((4, ((0, 1), (0, 2), (0, 3), (1, 2))), 0),
                         (4, ((0, 1), (0, 2), (0, 3), (1, 3), (2, 3))))
        self.assertEqual(web_turned(NINE, 8), (9, ((0, 5), (0, 8), (1, 2), (1, 7), (2, 7), (3, 5), (5, 8))))
        self.assertEqual(web_turned(NINE, 4), NINE)
        self.assertEqual(web_turned(FULL_NINE, 3),
                         (9, ((0, 3), (1, 3), (2, 3), (3, 4), (3, 5), (3, 6), (3, 7), (3, 8))))

    def test_at_each_place(self):
        for web in SMALL + FIVE + LARGE:
            for place in range(web[0]):
                told = web_turned(web, place)
                self.assertIs(is_web(told), True)
                self.assertEqual(told, plainly_turned(web, place))

    def test_twice_it_is_as_it_was(self):
        for web in SMALL + FIVE + LARGE:
            for place in range(web[0]):
                self.assertEqual(web_turned(web_turned(web, place), place), web)

    def test_somewhat_beyond_nine_places(self):
        self.assertEqual(web_turned((11, ((0, 10), (9, 10))), 10), (11, ((0, 9), (0, 10), (9, 10))))


class RingTurned(unittest.TestCase):
    def test_some(self):
        self.assertEqual(ring_turned((0, 0), 0), (0, 0))
        self.assertEqual(ring_turned((0, 1, 0, 1), 1), (0, 1, 0, 1))
        self.assertEqual(ring_turned((0, 1, 2, 0, 1, 2), 0), (0, 2, 1, 0, 1, 2))
        self.assertEqual(ring_turned((0, 1, 2, 0, 1, 2), 1), (0, 1, 0, 2, 1, 2))
        self.assertEqual(ring_turned((0, 1, 2, 0, 1, 2), 2), (0, 1, 2, 1, 0, 2))
        self.assertEqual(ring_turned((2, 0, 1, 1, 0, 2), 2), (2, 0, 1, 1, 0, 2))
        self.assertEqual(ring_turned(NINE_RING, 4), (0, 1, 2, 3, 4, 8, 7, 6, 5, 4, 0, 8, 2, 1, 7, 5, 3, 6))
        self.assertEqual(ring_turned(NINE_RING, 6), (0, 1, 2, 3, 4, 5, 6, 3, 5, 7, 1, 2, 8, 0, 4, 8, 7, 6))

    def test_at_each_place(self):
        for ring in RINGS + [NINE_RING]:
            for place in range(len(ring) // 2):
                told = ring_turned(ring, place)
                self.assertIs(is_ring(told), True)
                first, second = [k for k, stands in enumerate(ring) if stands == place]
                for k in range(len(ring)):
                    self.assertEqual(told[k], ring[first + second - k] if first < k < second else ring[k])

    def test_twice_it_is_as_it_was(self):
        for ring in RINGS + [NINE_RING]:
            for place in range(len(ring) // 2):
                self.assertEqual(ring_turned(ring_turned(ring, place), place), ring)

    def test_its_web_is_the_web_turned(self):
        for ring in RINGS + [NINE_RING]:
            for place in range(len(ring) // 2):
                self.assertEqual(web_of(ring_turned(ring, place)), web_turned(web_of(ring), place))

    def test_somewhat_beyond_nine_places(self):
        ring = tuple(range(10)) * 2
        self.assertEqual(ring_turned(ring, 0), (0,) + tuple(range(9, 0, -1)) + tuple(range(10)))


class Swapped(unittest.TestCase):
    def test_some(self):
        self.assertEqual(swapped((2, ((0, 1),)), 0, 1), (2, ((0, 1),)))
        self.assertEqual(swapped(STAR, 0, 1), (3, ((0, 1), (1, 2))))
        self.assertEqual(swapped((4, ((0, 1), (1, 2), (2, 3))), 1, 2), (4, ((0, 2), (0, 3), (1, 2), (1, 3))))

    def test_at_each_two_tied_places_both_ways_about(self):
        for web in SMALL + FIVE + LARGE:
            for one, other in web[1]:
                told = swapped(web, one, other)
                plainly = plainly_turned(plainly_turned(plainly_turned(web, one), other), one)
                self.assertIs(is_web(told), True)
                self.assertEqual(told, plainly)
                self.assertEqual(swapped(web, other, one), told)

    def test_two_that_are_not_tied(self):
        refused = 0
        for web in SMALL + FIVE + LARGE:
            for one, other in permutations(range(web[0]), 2):
                if not plainly_tied(web, one, other):
                    with self.assertRaises(NoTie) as caught:
                        swapped(web, one, other)
                    self.assertIs(type(caught.exception), NoTie)
                    refused += 1
        self.assertGreater(refused, 1000)


class AllTurned(unittest.TestCase):
    def test_some(self):
        self.assertEqual(all_turned((1, ())), [(1, ())])
        self.assertEqual(all_turned((2, ())), [(2, ())])
        self.assertEqual(all_turned((2, ((0, 1),))), [(2, ((0, 1),))])
        stars = [(3, ((0, 1), (0, 2))), (3, ((0, 1), (0, 2), (1, 2))), (3, ((0, 1), (1, 2))), (3, ((0, 2), (1, 2)))]
        for web in stars:
            self.assertEqual(all_turned(web), stars)
        self.assertEqual(all_turned((5, ())), [(5, ())])
        self.assertEqual(len(all_turned(round_web(5))), 132)

    def test_all_that_it_comes_to_as_the_tuples_rise(self):
        for web in SMALL + FIVE[::3]:
            told = all_turned(web)
            self.assertIsInstance(told, list)
            self.assertEqual(told, sorted(all_come_to(web)))
            self.assertIn(web, told)

    def test_all_it_comes_to_come_to_as_many(self):
        for web in (round_web(4), round_web(5), STAR):
            told = all_turned(web)
            for other in told:
                self.assertEqual(all_turned(other), told)

    def test_more_than_five_places(self):
        for web in ((6, ()), (7, ((0, 1),)), round_web(8), NINE, (10, ())):
            with self.assertRaises(TooMany) as caught:
                all_turned(web)
            self.assertIs(type(caught.exception), TooMany)

    def test_the_list_is_the_askers_own(self):
        first = all_turned(STAR)
        second = all_turned(STAR)
        self.assertEqual(first, second)
        self.assertIsNot(first, second)
        first.clear()
        self.assertEqual(len(second), 4)
        self.assertEqual(all_turned(STAR), second)


class TurnsTo(unittest.TestCase):
    def test_some(self):
        full = (3, ((0, 1), (0, 2), (1, 2)))
        self.assertEqual(turns_to(STAR, full), [0])
        self.assertEqual(turns_to(full, STAR), [0])
        self.assertEqual(turns_to(STAR, (3, ((0, 1), (1, 2)))), [0, 1])
        self.assertEqual(turns_to((3, ((0, 1), (1, 2))), (3, ((0, 2), (1, 2)))), [1, 2])

    def test_of_several_shortest_lists_the_least(self):
        # [2] leads there too, [2, 1, 0] and two more do, and so do [2, 1, 2] and two more.
        self.assertEqual(turns_to(round_web(4), (4, ((0, 1), (0, 3), (1, 2), (1, 3), (2, 3)))), [0])
        self.assertEqual(turns_to(round_web(4), (4, ((0, 1), (0, 2), (1, 3)))), [0, 1, 0])
        path = (4, ((0, 1), (1, 2), (2, 3)))
        self.assertEqual(turns_to(path, (4, ((0, 2), (0, 3), (1, 2), (1, 3)))), [1, 2, 0])

    def test_of_itself(self):
        for web in SMALL + FIVE:
            self.assertEqual(turns_to(web, web), [])

    def test_the_least_of_the_shortest_lists(self):
        for web in SMALL:
            lists = least_lists(web)
            for other in SMALL:
                if other[0] == web[0]:
                    self.assertEqual(turns_to(web, other), lists.get(other))

    def test_the_least_of_the_shortest_lists_of_five_places(self):
        for web in (round_web(5), (5, ((0, 1), (1, 2), (2, 3), (3, 4))), (5, ((0, 3), (1, 3), (2, 3), (2, 4)))):
            lists = least_lists(web)
            for other in all_come_to(web):
                self.assertEqual(turns_to(web, other), lists[other])
            for other in FIVE:
                self.assertEqual(turns_to(web, other), lists.get(other))

    def test_none_where_there_is_none(self):
        self.assertIsNone(turns_to((2, ()), (2, ((0, 1),))))
        self.assertIsNone(turns_to(STAR, (3, ((0, 1),))))
        self.assertIsNone(turns_to((4, ((0, 1), (2, 3))), (4, ((0, 2), (1, 3)))))
        self.assertIsNone(turns_to(round_web(5), (5, ())))

    def test_none_of_unlike_counts_ahead_of_too_many(self):
        for one, other in permutations(((1, ()), (2, ()), (5, ()), (6, ()), (7, ()), NINE, (10, ())), 2):
            self.assertIsNone(turns_to(one, other))

    def test_more_than_five_places(self):
        for one, other in (((6, ()), (6, ())), ((6, ()), (6, ((0, 1),))), (round_web(7), round_web(7)),
                           (NINE, FULL_NINE), (NINE, NINE)):
            with self.assertRaises(TooMany) as caught:
                turns_to(one, other)
            self.assertIs(type(caught.exception), TooMany)

    def test_the_list_is_the_askers_own(self):
        for other in (STAR, (3, ((0, 1), (1, 2)))):
            first = turns_to(STAR, other)
            second = turns_to(STAR, other)
            self.assertEqual(first, second)
            self.assertIsNot(first, second)
            first.append(9)
            self.assertEqual(turns_to(STAR, other), second)
            self.assertNotIn(9, second)


class AskedAgain(unittest.TestCase):
    def test_the_same_is_told(self):
        asks = (
            (web_turned, NINE, 1), (ring_turned, NINE_RING, 3), (swapped, NINE, 5, 8), (all_turned, round_web(5)),
            (turns_to, round_web(5), web_turned(round_web(5), 3)),
        )
        first = [ask[0](*ask[1:]) for ask in asks]
        for web in SMALL:
            all_turned(web)
        self.assertEqual([ask[0](*ask[1:]) for ask in asks], first)


if __name__ == "__main__":
    unittest.main()
