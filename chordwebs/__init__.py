"""Chordwebs: webs told by chords of a ring."""
