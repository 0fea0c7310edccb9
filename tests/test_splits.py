import unittest
from itertools import combinations

from chordwebs.errors import NoSplit, TooMany
from chordwebs.rings import is_ring, web_of
from chordwebs.splits import cut_rank, is_split, parted, put_together, ring_together, splits
from chordwebs.turns import web_turned
from chordwebs.webs import is_web, named
from samples import NO_USE, all_pairs, all_rings, all_sides, all_webs, others_of, plain_rank, plain_row
from samples import plainly_split, plainly_tied, round_web, some_webs

SMALL = all_webs(4)
PATH = (4, ((0, 1), (1, 2), (2, 3)))
STAR_NINE = (9, tuple((0, k) for k in range(1, 9)))
FULL_NINE = (9, tuple(all_pairs(9)))
NINE = (9, ((0, 8), (1, 2), (1, 7), (2, 7), (3, 5), (5, 8)))
LARGE = some_webs(5, 31) + some_webs(6, 2501) + some_webs(7, 499979)
RINGS = [ring for ring in all_rings(3) if len(ring) > 2]
FOUR_RINGS = [ring for ring in all_rings(4) if len(ring) == 8][::83]
NINE_RING = (0, 1, 2, 3, 4, 5, 6, 7, 8, 4, 0, 8, 2, 1, 7, 5, 3, 6)


def plain_part(web, side):
    ties = [(k, j) for k, j in all_pairs(len(side)) if plainly_tied(web, side[k], side[j])]
    ties += [(k, len(side)) for k in range(len(side)) if plain_row(web, side, side[k])]
    return (len(side) + 1, tuple(sorted(ties)))


def plainly_together(one, two):
    """The ties, asked of each two places by the web or the webs that they come from."""
    from_one = [(one, two, place) for place in range(one[0] - 1)]
    from_two = [(two, one, place) for place in range(two[0] - 1)]
    places = from_one + from_two
    ties = []
    for k, j in all_pairs(len(places)):
        alike = (k < len(from_one)) == (j < len(from_one))
        web, other_web, place = places[k]
        if alike:
            is_tied = plainly_tied(web, place, places[j][2])
        else:
            is_tied = (plainly_tied(web, place, web[0] - 1)
                       and plainly_tied(other_web, places[j][2], other_web[0] - 1))
        if is_tied:
            ties.append((k, j))
    return (len(places), tuple(ties))


def plain_ring_together(one, two):
    def beside(ring, more):
        last = len(ring) // 2 - 1
        first, second = [k for k, place in enumerate(ring) if place == last]
        inside = [place + more for place in ring[first + 1:second]]
        outside = [place + more for place in ring[second + 1:] + ring[:first]]
        return inside, outside
    x, y = beside(one, 0)
    u, v = beside(two, len(one) // 2 - 1)
    return tuple(x + u + y + v)


class Refusals(unittest.TestCase):
    def refused(self, error, ask, *things):
        with self.assertRaises(error) as caught:
            ask(*things)
        self.assertIs(type(caught.exception), error)


class CutRank(unittest.TestCase):
    def test_some(self):
        self.assertEqual(cut_rank(PATH, (0,)), 1)
        self.assertEqual(cut_rank(PATH, (0, 1)), 1)
        self.assertEqual(cut_rank(PATH, (0, 2)), 2)
        self.assertEqual(cut_rank(PATH, (0, 3)), 2)
        self.assertEqual(cut_rank(PATH, (1, 2)), 2)
        self.assertEqual(cut_rank((4, ()), (0, 1)), 0)
        self.assertEqual(cut_rank(FULL_NINE, (0, 4, 7)), 1)
        self.assertEqual(cut_rank((8, ((0, 4), (1, 5), (2, 6), (3, 7))), (0, 1, 2, 3)), 4)
        # Three rows, each two of them unlike, of which the third is the sum of the others.
        self.assertEqual(cut_rank((6, ((0, 3), (0, 4), (1, 4), (1, 5), (2, 3), (2, 5))), (0, 1, 2)), 2)

    def test_of_no_place_and_of_all(self):
        for web in SMALL + LARGE + [NINE, FULL_NINE, STAR_NINE]:
            self.assertEqual(cut_rank(web, ()), 0)
            self.assertEqual(cut_rank(web, tuple(range(web[0]))), 0)

    def test_of_each_side(self):
        for web in SMALL + LARGE:
            for side in all_sides(web[0]):
                self.assertEqual(cut_rank(web, side), plain_rank(web, side))

    def test_some_sides_of_nine_places(self):
        for web in (NINE, STAR_NINE, FULL_NINE, round_web(9)):
            for side in all_sides(9)[::23]:
                self.assertEqual(cut_rank(web, side), plain_rank(web, side))

    def test_both_sides_have_one(self):
        for web in SMALL + LARGE + [NINE, round_web(9)]:
            for side in all_sides(web[0]):
                self.assertEqual(cut_rank(web, side), cut_rank(web, others_of(web, side)))

    def test_it_stays_when_the_web_is_turned(self):
        for web in SMALL[::3] + LARGE + [NINE, round_web(9)]:
            for place in range(web[0]):
                turned = web_turned(web, place)
                for side in all_sides(web[0])[::3]:
                    self.assertEqual(cut_rank(turned, side), cut_rank(web, side))


class IsSplit(unittest.TestCase):
    def test_some(self):
        self.assertIs(is_split(PATH, (0, 1)), True)
        self.assertIs(is_split(PATH, (2, 3)), True)
        self.assertIs(is_split(PATH, (0, 2)), False)
        self.assertIs(is_split(PATH, (1, 2)), False)
        self.assertIs(is_split((4, ()), (1, 3)), True)
        self.assertIs(is_split(FULL_NINE, (0, 1, 2, 3, 4, 5, 6)), True)

    def test_each_side_needs_two_places(self):
        for web in ((9, ()), FULL_NINE, STAR_NINE):
            for side in ((), (0,), (5,), tuple(range(8)), tuple(range(1, 9)), tuple(range(9))):
                self.assertIs(is_split(web, side), False)
            self.assertIs(is_split(web, (0, 5)), True)
            self.assertIs(is_split(web, tuple(range(2, 9))), True)
        for web in all_webs(3):
            for side in all_sides(web[0]):
                self.assertIs(is_split(web, side), False)

    def test_of_each_side(self):
        for web in SMALL + LARGE:
            for side in all_sides(web[0]):
                self.assertIs(is_split(web, side), plainly_split(web, side))

    def test_what_is_no_side(self):
        for side in ((1, 0), (0, 0), (0, 0, 1), (0, 4), (-1, 0), (0, True)):
            self.assertIs(is_split((4, ()), side), False)


class Splits(unittest.TestCase):
    def test_some(self):
        self.assertEqual(splits((1, ())), [])
        self.assertEqual(splits((3, ((0, 1), (1, 2)))), [])
        self.assertEqual(splits(PATH), [(0, 1)])
        self.assertEqual(splits((4, ())), [(0, 1), (0, 2), (0, 3)])
        self.assertEqual(splits(round_web(4)), [(0, 2)])
        self.assertEqual(splits(round_web(5)), [])
        self.assertEqual(splits((5, ((0, 1), (1, 2), (2, 3), (3, 4)))), [(0, 1), (0, 1, 2)])
        self.assertEqual(splits((5, ((0, 1),))), [
            (0, 1), (0, 1, 2), (0, 1, 3), (0, 1, 4), (0, 2), (0, 2, 3), (0, 2, 4), (0, 3), (0, 3, 4), (0, 4)])
        self.assertEqual(splits(round_web(9)), [])

    def test_of_nine_places(self):
        every = sorted((0,) + rest for count in range(1, 7) for rest in combinations(range(1, 9), count))
        self.assertEqual(len(every), 246)
        for web in ((9, ()), FULL_NINE, STAR_NINE):
            self.assertEqual(splits(web), every)

    def test_all_sides_with_the_place_nought_as_the_tuples_rise(self):
        for web in SMALL + LARGE:
            told = splits(web)
            self.assertIsInstance(told, list)
            self.assertEqual(told, sorted(side for side in all_sides(web[0]) if 0 in side and plainly_split(web, side)))

    def test_they_stay_when_the_web_is_turned(self):
        for web in SMALL + LARGE + [NINE]:
            for place in range(web[0]):
                self.assertEqual(splits(web_turned(web, place)), splits(web))

    def test_the_list_is_the_askers_own(self):
        first = splits(PATH)
        second = splits(PATH)
        self.assertIsNot(first, second)
        first.append(())
        self.assertEqual(second, [(0, 1)])
        self.assertEqual(splits(PATH), [(0, 1)])


class Parted(Refusals):
    def test_some(self):
        three = (3, ((0, 1), (1, 2)))
        self.assertEqual(parted(PATH, (0, 1)), (three, (3, ((0, 1), (0, 2)))))
        self.assertEqual(parted(PATH, (2, 3)), ((3, ((0, 1), (0, 2))), three))
        self.assertEqual(parted((4, ()), (1, 3)), ((3, ()), (3, ())))
        self.assertEqual(parted(round_web(4), (0, 2)), ((3, ((0, 2), (1, 2))), (3, ((0, 2), (1, 2)))))
        self.assertEqual(parted(FULL_NINE, (3, 5)), ((3, tuple(all_pairs(3))), (8, tuple(all_pairs(8)))))
        self.assertEqual(parted(STAR_NINE, (1, 2, 3)), (
            (4, ((0, 3), (1, 3), (2, 3))), (7, ((0, 1), (0, 2), (0, 3), (0, 4), (0, 5), (0, 6)))))

    def test_at_each_side(self):
        for web in SMALL + LARGE:
            for side in all_sides(web[0]):
                if plainly_split(web, side):
                    told = parted(web, side)
                    self.assertIsInstance(told, tuple)
                    self.assertEqual(told, (plain_part(web, side), plain_part(web, others_of(web, side))))
                    self.assertTrue(is_web(told[0]) and is_web(told[1]))
                else:
                    self.refused(NoSplit, parted, web, side)

    def test_what_is_no_side_of_a_split(self):
        for side in ((), (0,), (3,), (1, 2, 3), (0, 1, 2, 3), (0, 2), (0, 3), (1, 2), (1, 3)):
            self.refused(NoSplit, parted, PATH, side)
        for side in ((1, 0), (0, 0), (0, 0, 1), (0, 4), (-1, 0), (0, True), (0, 1, 7)):
            self.refused(NoSplit, parted, (4, ()), side)
        for thing in NO_USE:
            self.refused(NoSplit, parted, (4, ()), thing)

    def test_put_together_again(self):
        for web in SMALL + LARGE + [NINE, STAR_NINE, FULL_NINE]:
            for side in splits(web):
                for place in (side, others_of(web, side)):
                    parts = parted(web, place)
                    self.assertEqual(put_together(parts[0], parts[1]), named(web, place + others_of(web, place)))


class PutTogether(Refusals):
    def test_some(self):
        tie = (2, ((0, 1),))
        self.assertEqual(put_together((2, ()), (2, ())), (2, ()))
        self.assertEqual(put_together(tie, tie), tie)
        self.assertEqual(put_together(tie, (2, ())), (2, ()))
        self.assertEqual(put_together((3, ((0, 1), (1, 2))), (3, ((0, 1), (0, 2)))), PATH)
        self.assertEqual(put_together((3, ((0, 1),)), (4, ((0, 1), (0, 3), (1, 2)))), (5, ((0, 1), (2, 3), (3, 4))))
        self.assertEqual(put_together((4, ((0, 3), (1, 3))), (3, ((0, 2), (1, 2)))),
                         (5, ((0, 3), (0, 4), (1, 3), (1, 4))))

    def test_small_webs(self):
        webs = [web for web in SMALL if web[0] > 1] + some_webs(5, 101)
        for one in webs:
            for two in webs:
                told = put_together(one, two)
                self.assertIs(is_web(told), True)
                self.assertEqual(told, plainly_together(one, two))

    def test_up_to_nine_places(self):
        full = [(many, tuple(all_pairs(many))) for many in range(10)]
        for one in range(2, 10):
            for two in range(2, 10):
                if one + two <= 11:
                    self.assertEqual(put_together(full[one], full[two])[0], one + two - 2)
                else:
                    self.refused(TooMany, put_together, full[one], full[two])
        self.assertEqual(put_together(full[2], full[9]), full[9])
        self.assertEqual(put_together(full[6], full[5]), full[9])
        self.refused(TooMany, put_together, (6, ()), (6, ()))
        self.refused(TooMany, put_together, (2, ()), (10, ()))


class RingTogether(Refusals):
    def test_some(self):
        self.assertEqual(ring_together((0, 0, 1, 1), (0, 0, 1, 1)), (0, 0, 1, 1))
        self.assertEqual(ring_together((0, 1, 0, 1), (1, 0, 1, 0)), (0, 1, 0, 1))
        self.assertEqual(ring_together((2, 0, 2, 1, 0, 1), (1, 0, 1, 0)), (0, 2, 1, 0, 1, 2))
        self.assertEqual(ring_together((0, 1, 2, 0, 1, 2), (0, 1, 2, 1, 0, 2)), (0, 1, 3, 2, 0, 1, 2, 3))
        self.assertEqual(ring_together((0, 1, 2, 1, 2, 0), (0, 0, 1, 1)), (1, 0, 0, 1, 2, 2))

    def test_small_rings(self):
        for one in RINGS + FOUR_RINGS:
            for two in RINGS[::5] + FOUR_RINGS[::3]:
                told = ring_together(one, two)
                self.assertIs(is_ring(told), True)
                self.assertEqual(told, plain_ring_together(one, two))
                self.assertEqual(web_of(told), put_together(web_of(one), web_of(two)))

    def test_up_to_nine_places(self):
        for two in ((0, 1, 0, 1), (1, 0, 0, 1), (0, 0, 1, 1)):
            self.assertEqual(ring_together(NINE_RING, two), plain_ring_together(NINE_RING, two))
            self.assertEqual(ring_together(two, NINE_RING), plain_ring_together(two, NINE_RING))
            self.assertEqual(web_of(ring_together(two, NINE_RING)), put_together(web_of(two), web_of(NINE_RING)))
        for one in range(2, 10):
            for two in range(2, 10):
                rings = (tuple(range(one)) * 2, tuple(range(two)) * 2)
                if one + two <= 11:
                    self.assertEqual(len(ring_together(rings[0], rings[1])), 2 * (one + two - 2))
                else:
                    self.refused(TooMany, ring_together, rings[0], rings[1])


class SomewhatBeyond(unittest.TestCase):
    def test_nothing_is_refused_for_it(self):
        web = (10, ((0, 9), (1, 2)))
        self.assertEqual(cut_rank(web, (0, 1)), 2)
        self.assertIs(is_split(web, (0, 9)), True)
        self.assertIn((0, 9), splits(web))
        self.assertEqual(parted(web, (0, 9)), ((3, ((0, 1),)), (9, ((0, 1),))))


class AskedAgain(unittest.TestCase):
    def test_the_same_is_told(self):
        asks = (
            (cut_rank, NINE, (0, 1, 5)), (is_split, NINE, (0, 8)), (splits, NINE), (parted, PATH, (0, 1)),
            (put_together, PATH, (3, ((0, 1), (0, 2)))), (ring_together, (0, 1, 2, 1, 2, 0), (0, 1, 0, 1)),
        )
        first = [ask[0](*ask[1:]) for ask in asks]
        for web in SMALL:
            splits(web)
        self.assertEqual([ask[0](*ask[1:]) for ask in asks], first)


if __name__ == "__main__":
    unittest.main()
