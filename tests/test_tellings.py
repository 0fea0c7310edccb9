import unittest
from itertools import permutations

from chordwebs.bars import bar_web
from chordwebs.errors import TooMany
from chordwebs.found import ring_of
from chordwebs.rings import is_ring, least, web_of
from chordwebs.tellings import all_rings, is_whole
from chordwebs.turns import web_turned
from chordwebs.webs import named
from samples import all_pairs, all_sides, all_turnings, all_webs, chords, plainly_cross, plainly_split
from samples import ring_of_chords, round_web, some_webs

FIVE = [web for web in all_webs(5) if web[0] == 5]
TEN_CHORDS = tuple(range(10)) * 2


def rings_of_count(many):
    """A ring of each way to lay the chords and each way to number them, but that 0 stands first."""
    rings = []
    for pairs in chords(tuple(range(2 * many))):
        ring = ring_of_chords(pairs)
        for names in permutations(range(1, many)):
            rings.append(tuple(((0,) + names)[place] for place in ring))
    return rings


def plain_web(ring):
    many = len(ring) // 2
    return (many, tuple(pair for pair in all_pairs(many) if plainly_cross(ring, pair[0], pair[1])))


def plainly_told():
    """All least rings of at most five places, by the webs that they tell."""
    told = {web: [] for web in all_webs(5)}
    for many in range(1, 6):
        for ring in {min(all_turnings(ring)) for ring in rings_of_count(many)}:
            told[plain_web(ring)].append(ring)
    return {web: sorted(rings) for web, rings in told.items()}


TOLD = plainly_told()


class AllRings(unittest.TestCase):
    def test_one_and_two_places(self):
        self.assertEqual(all_rings((1, ())), [(0, 0)])
        self.assertEqual(all_rings((2, ())), [(0, 0, 1, 1)])
        self.assertEqual(all_rings((2, ((0, 1),))), [(0, 1, 0, 1)])

    def test_three_places(self):
        self.assertEqual(all_rings((3, ())), [(0, 0, 1, 1, 2, 2), (0, 0, 1, 2, 2, 1), (0, 0, 2, 1, 1, 2),
                                              (0, 1, 1, 0, 2, 2)])
        self.assertEqual(all_rings((3, ((0, 1), (1, 2)))), [(0, 1, 0, 2, 1, 2)])
        # In whichever of the four gaps the third chord lies, the ring is the same.
        self.assertEqual(all_rings((3, ((0, 1),))), [(0, 1, 0, 1, 2, 2)])
        self.assertEqual(all_rings((3, ((0, 1), (0, 2), (1, 2)))), [(0, 1, 2, 0, 1, 2)])

    def test_all_webs_of_at_most_five_places(self):
        self.assertEqual(len(TOLD), 1 + 2 + 8 + 64 + 1024)
        for web, rings in TOLD.items():
            self.assertEqual(all_rings(web), rings)

    def test_what_the_list_is(self):
        for web in all_webs(4) + some_webs(5, 13):
            rings = all_rings(web)
            self.assertIsInstance(rings, list)
            self.assertEqual(rings, sorted(set(rings)))
            for ring in rings:
                self.assertIs(is_ring(ring), True)
                self.assertEqual(least(ring), ring)
                self.assertEqual(web_of(ring), web)

    def test_of_webs_named_anew_there_are_as_many(self):
        for web in some_webs(5, 37):
            for order in ((4, 3, 2, 1, 0), (2, 0, 4, 1, 3)):
                self.assertEqual(len(all_rings(named(web, order))), len(all_rings(web)))

    def test_no_two_of_them_are_turnings_of_one_another(self):
        for web in ((4, ()), (5, ()), (5, ((0, 1),)), (5, ((0, 1), (2, 3)))):
            seen = []
            for ring in all_rings(web):
                self.assertNotIn(ring, seen)
                seen.extend(all_turnings(ring))

    def test_none_is_told_just_where_no_ring_is_found(self):
        # Of at most five places each web is told, so a list of none does not come up.
        for web in all_webs(5):
            self.assertIs(all_rings(web) == [], ring_of(web) is None)
            self.assertIn(least(ring_of(web)), all_rings(web))

    def test_the_list_is_the_askers_own(self):
        for web in ((1, ()), (4, ()), round_web(5)):
            told = all_rings(web)
            before = list(told)
            self.assertIsNot(all_rings(web), told)
            told.append("more")
            told[0] = None
            self.assertEqual(all_rings(web), before)

    def test_more_than_five_places(self):
        webs = ((6, ()), round_web(6), (6, tuple(all_pairs(6))), bar_web("wheel5"), bar_web("cube7"), (8, ()), (9, ()),
                round_web(9), (10, ()), web_of(TEN_CHORDS))
        for web in webs:
            with self.assertRaises(TooMany) as caught:
                all_rings(web)
            self.assertIs(type(caught.exception), TooMany)


class IsWhole(unittest.TestCase):
    def test_rounds(self):
        for many in range(5, 10):
            self.assertIs(is_whole(round_web(many)), True)
        self.assertIs(is_whole(round_web(3)), False)
        self.assertIs(is_whole(round_web(4)), False)

    def test_the_bars(self):
        for word in ("wheel5", "wheel7", "cube7"):
            self.assertIs(is_whole(bar_web(word)), True)

    def test_none_of_fewer_than_five_places(self):
        for web in all_webs(4):
            self.assertIs(is_whole(web), False)

    def test_what_has_a_split_is_not_whole(self):
        for many in range(5, 10):
            self.assertIs(is_whole((many, ())), False)
            self.assertIs(is_whole((many, tuple(all_pairs(many)))), False)
            self.assertIs(is_whole((many, tuple((k, k + 1) for k in range(many - 1)))), False)
            # A round with one place more that is tied to one alone, and with one that is tied to none.
            self.assertIs(is_whole((many + 1, tuple(sorted(round_web(many)[1] + ((2, many),))))), False)
            self.assertIs(is_whole((many + 1, round_web(many)[1])), False)

    def test_all_of_five_places_and_some_of_more(self):
        whole = 0
        for web in FIVE + some_webs(6, 701) + some_webs(7, 199999):
            none = not any(plainly_split(web, side) for side in all_sides(web[0]))
            self.assertIs(is_whole(web), none, repr(web))
            whole += none
        self.assertGreater(whole, 50)

    def test_a_whole_web_has_one_ring_at_most(self):
        whole = [web for web in FIVE if is_whole(web)]
        self.assertGreater(len(whole), 50)
        for web in whole:
            self.assertEqual(len(all_rings(web)), 1)
        self.assertEqual(all_rings(round_web(5)), [(0, 1, 4, 0, 3, 4, 2, 3, 1, 2)])

    def test_a_whole_web_stays_whole_when_it_is_turned(self):
        for web in some_webs(5, 41) + some_webs(6, 2999) + [round_web(8)]:
            for place in range(web[0]):
                self.assertIs(is_whole(web_turned(web, place)), is_whole(web))

    def test_somewhat_beyond_nine_places(self):
        self.assertIs(is_whole(round_web(10)), True)
        self.assertIs(is_whole((10, ())), False)


class AskedAgain(unittest.TestCase):
    def test_the_same_is_told(self):
        webs = some_webs(5, 97) + [(4, ()), (1, ())]
        rings = [all_rings(web) for web in webs]
        whole = [is_whole(web) for web in webs]
        self.assertEqual([all_rings(web) for web in reversed(webs)], rings[::-1])
        self.assertEqual([is_whole(web) for web in reversed(webs)], whole[::-1])


if __name__ == "__main__":
    unittest.main()
