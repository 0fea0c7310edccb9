import copy
import unittest
from itertools import combinations, permutations, product

from chordwebs.webs import around, is_web, kept, named, other_web, pieces, tied
from samples import NO_USE, all_pairs, all_webs, plainly_tied

SMALL = all_webs(4)
PATH = (4, ((0, 1), (1, 2), (2, 3)))
NINE = (9, ((0, 8), (1, 2), (1, 7), (2, 7), (3, 5), (5, 8)))
FULL_NINE = (9, tuple(all_pairs(9)))


class IsWeb(unittest.TestCase):
    def yes(self, thing):
        self.assertIs(is_web(thing), True, repr(thing))

    def no(self, thing):
        self.assertIs(is_web(thing), False, repr(thing))

    def test_small_webs(self):
        self.assertEqual(len(SMALL), 1 + 2 + 8 + 64)
        for web in SMALL:
            self.yes(web)

    def test_the_counts_of_places(self):
        for many in range(1, 10):
            self.yes((many, ()))
            self.yes((many, tuple(all_pairs(many))))
        for many in (0, -1, -9, 10, 11, 90, 10 ** 40, -(10 ** 40)):
            self.no((many, ()))
        self.no((10, ((0, 1),)))
        self.no((10, tuple(all_pairs(10))))
        self.no((0, ((0, 1),)))

    def test_many_is_a_whole_number(self):
        for many in (True, False, None, "", "3", (), (3,), [], [3], {}, {3: 3}):
            self.no((many, ()))
            self.no((many, ((0, 1),)))

    def test_lists_in_the_place_of_tuples(self):
        self.yes((3, ((0, 1), (1, 2))))
        self.no([3, ((0, 1), (1, 2))])
        self.no((3, [(0, 1), (1, 2)]))
        self.no((3, ([0, 1], (1, 2))))
        self.no((3, ((0, 1), [1, 2])))
        self.no((3, ([0, 1], [1, 2])))
        self.no([3, [[0, 1], [1, 2]]])
        self.no((3, []))
        self.no([1, ()])

    def test_the_outer_tuple_has_two(self):
        for thing in ((), (3,), (3, (), ()), (3, (), None), ((), 3), (3, 0, 1), (3, (0, 1), (1, 2)), ((3, ()),)):
            self.no(thing)

    def test_ties_are_a_tuple(self):
        for ties in (None, True, False, 0, 1, "", "01", "0-1", {}, {(0, 1): True}, {0: 1}, [], [(0, 1)]):
            self.no((3, ties))

    def test_a_tie_rises_within_the_places(self):
        for tie in ((1, 0), (2, 0), (0, 0), (2, 2), (0, 3), (2, 3), (3, 4), (0, 10 ** 40), (-1, 0), (-1, 2), (-2, -1)):
            self.no((3, (tie,)))
            self.no((3, ((0, 1), tie)))
            self.no((3, (tie, (1, 2))))
        self.yes((9, ((7, 8),)))
        self.no((9, ((8, 9),)))
        self.no((8, ((7, 8),)))
        self.no((1, ((0, 1),)))
        self.no((1, ((0, 0),)))

    def test_ties_rise_and_none_is_told_twice(self):
        self.yes((4, ((0, 1), (0, 3), (1, 2))))
        self.no((4, ((0, 1), (0, 1))))
        self.no((4, ((0, 1), (1, 2), (1, 2))))
        self.no((4, ((0, 1), (1, 2), (0, 3))))
        self.no((4, ((1, 2), (0, 1))))
        self.no((4, ((0, 3), (0, 1))))
        self.no((4, ((0, 1), (0, 2), (0, 1))))

    def test_a_tie_is_a_tuple_of_two_whole_numbers(self):
        wrong = (
            (), (0,), (0, 1, 2), (0, 1, 1), (False, True), (0, True), (False, 1), (True, 2), ("0", "1"), (0, "1"),
            ("0", 1), "01", "", (None, 1), (0, None), (None, None), None, True, False, 0, 1, {}, {0: 1}, [], [0, 1],
            ((0, 1),), ((0,), (1,)), ([0], [1]), (0, [1]), (0, (1,)), ({}, {}), ((0, 1), (1, 2)),
        )
        for tie in wrong:
            self.no((3, (tie,)))
            self.no((3, ((0, 1), tie)))
            self.no((3, (tie, (1, 2))))
            self.no((3, (tie, tie)))

    def test_of_anything(self):
        for thing in NO_USE:
            self.no(thing)
            self.no((thing, thing))
            self.no((3, (thing,)))
            self.no((3, ((thing, thing),)))
            self.no((3, ((thing, None),)))
            self.no((3, ((0, 1), (1, (thing,)))))
            self.no((3, [thing]))

    def test_just_the_right_ones_of_all_small_things(self):
        numbers = list(product(range(-1, 4), repeat=2))
        for count, right in ((0, 1), (1, 3), (2, 3), (3, 1)):
            told = [ties for ties in product(numbers, repeat=count) if is_web((3, ties))]
            self.assertEqual(told, list(combinations([(0, 1), (0, 2), (1, 2)], count)))
            self.assertEqual(len(told), right)

    def test_what_is_handed_in_stays(self):
        thing = (3, [[0, 1], {1: [2]}, (1, 2)])
        before = copy.deepcopy(thing)
        self.no(thing)
        self.no(thing)
        self.assertEqual(repr(thing), repr(before))
        inner = [0, 1]
        outer = (3, (inner, (1, 2)))
        self.no(outer)
        self.assertEqual(inner, [0, 1])

    def test_nothing_is_kept_of_it(self):
        thing = [3, ()]
        self.no(thing)
        thing[0] = 2
        self.no(thing)
        self.yes(tuple(thing))


class Ties(unittest.TestCase):
    def test_tied_both_ways_about(self):
        for one, other in all_pairs(4):
            answer = other == one + 1
            self.assertIs(tied(PATH, one, other), answer)
            self.assertIs(tied(PATH, other, one), answer)

    def test_tied_in_small_webs(self):
        for web in SMALL + [NINE, FULL_NINE]:
            for one, other in permutations(range(web[0]), 2):
                self.assertIs(tied(web, one, other), plainly_tied(web, one, other))

    def test_around(self):
        self.assertEqual(around(PATH, 0), (1,))
        self.assertEqual(around(PATH, 1), (0, 2))
        self.assertEqual(around((4, ((0, 3), (1, 3), (2, 3))), 3), (0, 1, 2))
        self.assertEqual(around((4, ((0, 3), (1, 3), (2, 3))), 0), (3,))
        self.assertEqual(around((1, ()), 0), ())
        self.assertEqual(around(NINE, 4), ())
        self.assertEqual(around(NINE, 8), (0, 5))
        self.assertEqual(around(FULL_NINE, 4), (0, 1, 2, 3, 5, 6, 7, 8))

    def test_around_in_small_webs(self):
        for web in SMALL + [NINE, FULL_NINE]:
            for place in range(web[0]):
                told = around(web, place)
                self.assertIsInstance(told, tuple)
                self.assertEqual(told, tuple(k for k in range(web[0]) if plainly_tied(web, place, k)))

    def test_other_web(self):
        self.assertEqual(other_web((1, ())), (1, ()))
        self.assertEqual(other_web(PATH), (4, ((0, 2), (0, 3), (1, 3))))
        self.assertEqual(other_web((9, ())), FULL_NINE)
        self.assertEqual(other_web(FULL_NINE), (9, ()))

    def test_other_web_in_small_webs(self):
        for web in SMALL + [NINE]:
            other = other_web(web)
            self.assertIs(is_web(other), True)
            self.assertEqual(other[0], web[0])
            self.assertEqual(sorted(other[1] + web[1]), all_pairs(web[0]))
            self.assertEqual(other_web(other), web)


class Kept(unittest.TestCase):
    def test_kept(self):
        self.assertEqual(kept(PATH, (2,)), (1, ()))
        self.assertEqual(kept(PATH, (1, 2)), (2, ((0, 1),)))
        self.assertEqual(kept(PATH, (3, 0)), (2, ()))
        self.assertEqual(kept(PATH, (3, 1, 2)), (3, ((0, 2), (1, 2))))
        self.assertEqual(kept(PATH, (0, 1, 2, 3)), PATH)
        self.assertEqual(kept(NINE, (8, 5, 3, 4)), (4, ((0, 1), (1, 2))))
        self.assertEqual(kept(FULL_NINE, (8, 0, 4)), (3, ((0, 1), (0, 2), (1, 2))))

    def test_kept_in_small_webs(self):
        for web in SMALL:
            for count in range(1, web[0] + 1):
                for places in permutations(range(web[0]), count):
                    self.keeps(kept, web, places)

    def keeps(self, ask, web, places):
        told = ask(web, places)
        self.assertIs(is_web(told), True)
        self.assertEqual(told[0], len(places))
        for one, other in all_pairs(len(places)):
            self.assertEqual((one, other) in told[1], plainly_tied(web, places[one], places[other]))

    def test_named(self):
        self.assertEqual(named((1, ()), (0,)), (1, ()))
        self.assertEqual(named((3, ((0, 1),)), (1, 2, 0)), (3, ((0, 2),)))
        self.assertEqual(named(PATH, (1, 3, 0, 2)), (4, ((0, 2), (0, 3), (1, 3))))
        self.assertEqual(named(NINE, tuple(range(9))), NINE)
        self.assertEqual(named(FULL_NINE, (8, 7, 6, 5, 4, 3, 2, 1, 0)), FULL_NINE)

    def test_named_in_small_webs(self):
        for web in SMALL:
            for order in permutations(range(web[0])):
                self.keeps(named, web, order)

    def test_pieces(self):
        self.assertEqual(pieces((1, ())), [(0,)])
        self.assertEqual(pieces((4, ())), [(0,), (1,), (2,), (3,)])
        self.assertEqual(pieces(PATH), [(0, 1, 2, 3)])
        self.assertEqual(pieces((4, ((0, 3), (1, 2)))), [(0, 3), (1, 2)])
        self.assertEqual(pieces((5, ((0, 4), (1, 3), (2, 4)))), [(0, 2, 4), (1, 3)])
        self.assertEqual(pieces(NINE), [(0, 3, 5, 8), (1, 2, 7), (4,), (6,)])
        self.assertEqual(pieces(FULL_NINE), [(0, 1, 2, 3, 4, 5, 6, 7, 8)])
        self.assertEqual(pieces((9, ((0, 8), (1, 7), (2, 6), (3, 5), (4, 8), (5, 7)))),
                         [(0, 4, 8), (1, 3, 5, 7), (2, 6)])

    def test_pieces_in_small_webs(self):
        for web in SMALL + [NINE, FULL_NINE]:
            told = pieces(web)
            self.assertIsInstance(told, list)
            self.assertEqual(sorted(sum(told, ())), list(range(web[0])))
            self.assertEqual(told, sorted(told, key=min))
            for piece in told:
                self.assertIsInstance(piece, tuple)
                self.assertEqual(piece, tuple(sorted(piece)))
                self.is_closed(web, piece)
                self.is_least(web, piece)

    def is_closed(self, web, piece):
        for place in piece:
            self.assertLessEqual(set(around(web, place)), set(piece))

    def is_least(self, web, piece):
        for count in range(1, len(piece)):
            for part in combinations(piece, count):
                rest = [place for place in piece if place not in part]
                self.assertTrue(any(plainly_tied(web, one, other) for one in part for other in rest))

    def test_two_lists_told_are_not_one(self):
        web = (4, ((0, 3), (1, 2)))
        first = pieces(web)
        second = pieces(web)
        self.assertEqual(first, second)
        self.assertIsNot(first, second)
        first.append((9,))
        first[0] = ()
        self.assertEqual(second, [(0, 3), (1, 2)])
        self.assertEqual(pieces(web), [(0, 3), (1, 2)])


class SomewhatBeyond(unittest.TestCase):
    def test_nothing_is_refused_for_it(self):
        web = (10, ((0, 9), (1, 2)))
        self.assertIs(tied(web, 9, 0), True)
        self.assertEqual(around(web, 9), (0,))
        self.assertEqual(len(other_web(web)[1]), 43)
        self.assertEqual(kept(web, (9, 4, 0)), (3, ((0, 2),)))
        self.assertEqual(named(web, tuple(range(10))), web)
        self.assertEqual(pieces(web)[:2], [(0, 9), (1, 2)])


class AskedAgain(unittest.TestCase):
    def test_the_same_is_told(self):
        asks = (
            (is_web, NINE), (tied, NINE, 8, 5), (around, NINE, 1), (other_web, NINE), (kept, NINE, (8, 5, 3)),
            (named, PATH, (1, 3, 0, 2)), (pieces, NINE),
        )
        first = [ask[0](*ask[1:]) for ask in asks]
        for web in SMALL:
            pieces(web)
            other_web(web)
        self.assertEqual([ask[0](*ask[1:]) for ask in asks], first)


if __name__ == "__main__":
    unittest.main()
