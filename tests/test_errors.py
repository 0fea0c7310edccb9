import unittest

from chordwebs.errors import BadNote, ChordError, NoName, NoSplit, NoTie, TooMany

REFUSALS = (TooMany, NoTie, NoSplit, NoName, BadNote)


class Errors(unittest.TestCase):
    def test_chord_error_stands_under_value_error(self):
        self.assertEqual(ChordError.__bases__, (ValueError,))
        self.assertEqual(ChordError.__name__, "ChordError")

    def test_each_stands_straight_under_chord_error(self):
        names = ["TooMany", "NoTie", "NoSplit", "NoName", "BadNote"]
        self.assertEqual([refusal.__name__ for refusal in REFUSALS], names)
        for refusal in REFUSALS:
            self.assertEqual(refusal.__bases__, (ChordError,))

    def test_none_is_taken_for_another(self):
        for one in REFUSALS:
            for other in REFUSALS:
                self.assertIs(issubclass(one, other), one is other)

    def test_each_is_made_with_a_text(self):
        for refusal in REFUSALS + (ChordError,):
            with self.assertRaises(ChordError) as caught:
                raise refusal("some words")
            self.assertIs(type(caught.exception), refusal)
            self.assertEqual(str(caught.exception), "some words")


if __name__ == "__main__":
    unittest.main()
