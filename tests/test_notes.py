import copy
import unittest

from chordwebs.errors import BadNote
from chordwebs.notes import ring_read, ring_text, web_read, web_text
from chordwebs.rings import is_ring
from chordwebs.webs import is_web
from samples import NO_USE, all_pairs, all_rings, all_webs, one_sign_off, plainly_ring, plainly_web, round_web
from samples import some_webs, words_off

WEBS = all_webs(4) + some_webs(5, 29) + some_webs(6, 2503) + some_webs(7, 199999) + [
    round_web(8), round_web(9), (8, ()), (9, ()), (9, tuple(all_pairs(9)))]
NINE = (0, 1, 2, 3, 4, 5, 6, 7, 8, 4, 0, 8, 2, 1, 7, 5, 3, 6)
RINGS = all_rings(3) + [ring for ring in all_rings(4) if len(ring) == 8][::17] + [NINE, tuple(range(9)) * 2]
WEB_NOTE = "3 : 0-1 1-2"
RING_NOTE = "0 1 0 2 1 2"


class Notes(unittest.TestCase):
    def refused(self, read, thing):
        with self.assertRaises(BadNote, msg=repr(thing)) as caught:
            read(thing)
        self.assertIs(type(caught.exception), BadNote)

    def read_rightly(self, read, plainly, text):
        wanted = plainly(text)
        if wanted is None:
            self.refused(read, text)
        else:
            self.assertEqual(read(text), wanted)


class Written(Notes):
    def test_webs(self):
        self.assertEqual(web_text((3, ((0, 1), (1, 2)))), "3 : 0-1 1-2")
        self.assertEqual(web_text((1, ())), "1 :")
        self.assertEqual(web_text((2, ())), "2 :")
        self.assertEqual(web_text((2, ((0, 1),))), "2 : 0-1")
        self.assertEqual(web_text((9, ())), "9 :")
        self.assertEqual(web_text((9, ((0, 8), (1, 2), (7, 8)))), "9 : 0-8 1-2 7-8")

    def test_rings(self):
        self.assertEqual(ring_text((0, 1, 0, 2, 1, 2)), "0 1 0 2 1 2")
        self.assertEqual(ring_text((0, 0)), "0 0")
        self.assertEqual(ring_text((1, 0, 0, 1)), "1 0 0 1")
        self.assertEqual(ring_text(NINE), "0 1 2 3 4 5 6 7 8 4 0 8 2 1 7 5 3 6")

    def test_read_again_the_same(self):
        for web in WEBS:
            self.assertEqual(web_read(web_text(web)), web)
            self.assertEqual(plainly_web(web_text(web)), web)
        for ring in RINGS:
            self.assertEqual(ring_read(ring_text(ring)), ring)
            self.assertEqual(plainly_ring(ring_text(ring)), ring)

    def test_unlike_ones_are_written_unlike(self):
        self.assertEqual(len({web_text(web) for web in WEBS}), len(set(WEBS)))
        self.assertEqual(len({ring_text(ring) for ring in RINGS}), len(set(RINGS)))

    def test_somewhat_beyond_nine_places(self):
        self.assertEqual(web_text((11, ((0, 10), (9, 10)))), "11 : 0-10 9-10")
        self.assertEqual(ring_text(tuple(range(10)) * 2), "0 1 2 3 4 5 6 7 8 9 0 1 2 3 4 5 6 7 8 9")


class ReadWebs(Notes):
    def test_some(self):
        self.assertEqual(web_read("3 : 0-1 1-2"), (3, ((0, 1), (1, 2))))
        self.assertEqual(web_read("1 :"), (1, ()))
        self.assertEqual(web_read("9 : 7-8"), (9, ((7, 8),)))
        self.assertIs(is_web(web_read("2 : 0-1")), True)

    def test_another_sign(self):
        for text in ("1 :", "2 : 0-1", WEB_NOTE, "9 : 0-8 1-2"):
            for other in one_sign_off(text):
                self.read_rightly(web_read, plainly_web, other)

    def test_other_words(self):
        for text in ("1 :", "2 : 0-1", WEB_NOTE, "9 : 0-8 1-2 1-7 2-7"):
            for other in words_off(text):
                self.read_rightly(web_read, plainly_web, other)

    def test_blanks(self):
        for text in (" 3 : 0-1", "3 : 0-1 ", "3  : 0-1", "3 :  0-1", "3 : 0 -1", "3 : 0- 1", "3 : 0-1  1-2", "3: 0-1",
                     "3 :0-1", "3:", "3 : ", "3", "3 ", " ", "", ":", " :", "3 : 0-11-2", "3 :\t0-1", "3 : 0-1\n",
                     "\n3 :"):
            self.refused(web_read, text)

    def test_numbers(self):
        for text in ("0 :", "10 :", "03 : 0-1", "3 : 00-1", "3 : 0-01", "3 : 0-1 01-2", "+3 : 0-1", "-3 :", "3 : +0-1",
                     "3 : 0-+1", "3 : -0-1", "3 : 0--1", "3 : 0-3", "3 : 0-9", "9 : 0-9", "10 : 0-9", "3 : 0-10",
                     "00 :", "3. : 0-1", "3.0 : 0-1", "0x3 : 0-1", "a : 0-1", "3 : a-b", "1_0 :", "3 : 0-1_", "1e0 :",
                     "99 : 0-98"):
            self.refused(web_read, text)

    def test_ties(self):
        for text in ("3 : 1-0", "3 : 0-0", "3 : 1-2 0-1", "3 : 0-1 0-1", "3 : 0-2 0-1", "1 : 0-0", "1 : 0-1",
                     "2 : 0-2", "3 : 0-1-2", "3 : 0", "3 : 0-", "3 : -1", "3 : -", "3 : 01", "3 : 0:1", "3 : 0,1",
                     "3 : (0-1)", "3 : 0-1;1-2", "3 : 0-1 , 1-2", "3 : 0-1 : 1-2", "3 - 0-1", "3 ; 0-1", "3 :: 0-1",
                     "3 : : 0-1"):
            self.refused(web_read, text)

    def test_a_ring_is_no_web(self):
        for ring in RINGS:
            self.refused(web_read, ring_text(ring))


class ReadRings(Notes):
    def test_some(self):
        self.assertEqual(ring_read("0 1 0 2 1 2"), (0, 1, 0, 2, 1, 2))
        self.assertEqual(ring_read("0 0"), (0, 0))
        self.assertEqual(ring_read(" ".join("012345678012345678")), tuple(range(9)) * 2)
        self.assertIs(is_ring(ring_read("1 0 0 1")), True)

    def test_another_sign(self):
        for text in ("0 0", "0 1 1 0", RING_NOTE, ring_text(NINE)):
            for other in one_sign_off(text):
                self.read_rightly(ring_read, plainly_ring, other)

    def test_other_words(self):
        for text in ("0 0", "0 1 1 0", RING_NOTE, ring_text(NINE)):
            for other in words_off(text):
                self.read_rightly(ring_read, plainly_ring, other)

    def test_blanks(self):
        for text in (" 0 0", "0 0 ", "0  0", "00", "", " ", "  ", "0\t0", "0 0\n", "\n0 0", "0,0", "0 1 0  1",
                     "0 1 01"):
            self.refused(ring_read, text)

    def test_numbers(self):
        ten = " ".join(str(place) for place in tuple(range(10)) * 2)
        eleven = " ".join(str(place) for place in tuple(range(11)) * 2)
        for text in ("0", "0 1", "1 1", "0 0 0", "0 0 0 0", "0 0 1", "0 0 2 2", "-1 -1", "+0 +0", "+0 0", "-0 0",
                     "00 0", "0 00", "00 00", "0 01 0 01", "0 1 0 01", "a a", "0 a 0 a", "0. 0.", "0.0 0.0", "0_0 0_0",
                     "0 0 : 0", "9 9", ten, eleven):
            self.refused(ring_read, text)

    def test_a_web_is_no_ring(self):
        for web in WEBS:
            self.refused(ring_read, web_text(web))


class NoTexts(Notes):
    def test_of_anything(self):
        more = (
            (3, ((0, 1), (1, 2))), (1, ()), (0, 0), NINE, ["3 : 0-1"], ("3 : 0-1",), {"3 :": 1}, [["0 0"]],
            (("0 0",),), b"1 :", b"0 0", 1.5, {1, 2}, object(), BadNote, web_read, range(2),
        )
        for thing in [thing for thing in NO_USE if not isinstance(thing, str)] + list(more):
            self.refused(web_read, thing)
            self.refused(ring_read, thing)

    def test_other_texts(self):
        for text in ("none", "ok", "web a 3 :", "ring a 0 0", "\u0661 :", "1 \uff1a", "\u00b2 :", "\u0660 \u0660",
                     "0\u00a00", "~" * 500, " " * 500, "0 " * 300, "1 :" + " 0-1" * 200, "9" * 500, ":" * 500,
                     "1 :\x00", "\x000 0"):
            self.refused(web_read, text)
            self.refused(ring_read, text)

    def test_what_is_handed_in_stays(self):
        thing = ["3 : 0-1", {"a": ["0 0"]}]
        before = copy.deepcopy(thing)
        self.refused(web_read, thing)
        self.refused(ring_read, thing)
        self.assertEqual(thing, before)

    def test_asked_again_the_same_is_told(self):
        for _ in range(2):
            self.assertEqual(web_read(WEB_NOTE), (3, ((0, 1), (1, 2))))
            self.refused(web_read, RING_NOTE)
            self.assertEqual(ring_read(RING_NOTE), (0, 1, 0, 2, 1, 2))
            self.refused(ring_read, WEB_NOTE)


if __name__ == "__main__":
    unittest.main()
