"""Gaps, cuts, rests and what is lost, with pieces that fit at one place alone."""

import unittest

from helper import begin, keep, last, least, piece, run, spoil, stick


def lost(w, m, steps, pieces, marks=()):
    """What a stick from 100 loses by these pieces (places from its beginning), or None."""
    calls = [begin(w, m), stick(7, 1, 100, steps)]
    calls += [mark(7, 100 + first, 100 + end) for mark, first, end in marks]
    calls += [piece(n + 1, 100 + first, 100 + end) for n, (first, end) in enumerate(pieces)]
    told = run(*calls, least(*range(1, len(pieces) + 1)))
    if told[:-1] != [[0]] * len(calls):
        raise AssertionError(told)
    return told[-1][2] if told[-1][1] == 1 else None


class GapTest(unittest.TestCase):
    def test_opening_gap(self):
        for gap, expected in ((0, 0), (1, None), (2, 2), (3, 3), (4, 4), (5, 2), (6, 2), (19, 2)):
            with self.subTest(gap=gap):
                self.assertEqual(lost(2, 3, 20, [(gap, 20)]), expected)

    def test_closing_gap(self):
        for gap, expected in ((0, 0), (1, None), (2, 2), (3, 3), (4, 4), (5, 2), (6, 2), (19, 2)):
            with self.subTest(gap=gap):
                self.assertEqual(lost(2, 3, 20, [(0, 20 - gap)]), expected)

    def test_gap_between(self):
        for gap, expected in ((0, None), (1, None), (2, 2), (3, None), (4, 4), (5, 5), (6, 6), (7, 4), (18, 4)):
            with self.subTest(gap=gap):
                self.assertEqual(lost(2, 3, 20, [(0, 1), (1 + gap, 20)]), expected)
                self.assertEqual(lost(2, 3, 20, [(1 + gap, 20), (0, 1)]), expected)

    def test_widest_saw(self):
        for gap in range(0, 15):
            right = gap == 5 or gap >= 10
            with self.subTest(gap=gap):
                self.assertEqual(lost(5, 0, 20, [(0, 1), (1 + gap, 20)]), min(gap, 10) if right else None)
                self.assertEqual(lost(5, 0, 20, [(gap, 20)]), None if 0 < gap < 5 else min(gap, 5))
                self.assertEqual(lost(5, 0, 20, [(0, 20 - gap)]), None if 0 < gap < 5 else min(gap, 5))

    def test_narrowest_saw(self):
        for gap in range(0, 10):
            self.assertEqual(lost(1, 0, 20, [(0, 1), (1 + gap, 20)]), (None, 1)[gap] if gap < 2 else 2)
            self.assertEqual(lost(1, 0, 20, [(gap, 20)]), min(gap, 1))
            self.assertEqual(lost(1, 0, 20, [(0, 20 - gap)]), min(gap, 1))

    def test_takings_in_common_steps(self):
        self.assertIsNone(lost(1, 0, 20, [(0, 5), (4, 8)]))
        self.assertIsNone(lost(1, 0, 20, [(0, 5), (0, 5)]))
        self.assertIsNone(lost(1, 0, 20, [(0, 10), (3, 5)]))

    def test_all_gaps_of_a_row_together(self):
        # Opening: rest of 1; between: cut alone; between: rest of 3; closing: rest of 2.
        self.assertEqual(lost(1, 3, 20, [(2, 4), (5, 8), (13, 17)]), 2 + 1 + 2 + 3)
        self.assertIsNone(lost(1, 3, 20, [(2, 4), (4, 8), (13, 17)]))

    def test_stick_of_one_step(self):
        self.assertEqual(lost(5, 20, 1, [(0, 1)]), 0)


class ShortRestTest(unittest.TestCase):
    def test_no_rest_is_short_below_0(self):
        self.assertEqual(lost(1, 0, 20, [(2, 20)]), 1)
        self.assertEqual(lost(1, 1, 20, [(2, 20)]), 1)

    def test_at_the_bound(self):
        self.assertEqual(lost(1, 4, 20, [(4, 20)]), 4)
        self.assertEqual(lost(1, 4, 20, [(5, 20)]), 1)
        self.assertEqual(lost(1, 20, 20, [(0, 1)]), 19)
        self.assertEqual(lost(1, 18, 20, [(0, 1)]), 1)

    def test_kept_step_saves_a_short_rest(self):
        for first in (0, 1, 2):
            marks = [(keep, first, first + 1)]
            self.assertEqual(lost(2, 4, 20, [(5, 20)], marks), 2)
        for first in (17, 18, 19):
            marks = [(keep, first, first + 1)]
            self.assertEqual(lost(2, 4, 20, [(0, 15)], marks), 2)
        for first in (7, 8, 9):
            marks = [(keep, first, first + 1)]
            self.assertEqual(lost(2, 4, 20, [(0, 5), (12, 20)], marks), 4)

    def test_spoilt_step_saves_none(self):
        self.assertEqual(lost(2, 4, 20, [(5, 20)], [(spoil, 0, 5)]), 5)
        self.assertEqual(lost(2, 4, 20, [(0, 15)], [(spoil, 15, 20)]), 5)
        self.assertEqual(lost(2, 4, 20, [(0, 5), (12, 20)], [(spoil, 5, 12)]), 7)

    def test_spoilt_and_kept_saves(self):
        self.assertEqual(lost(2, 4, 20, [(5, 20)], [(spoil, 0, 5), (keep, 1, 2)]), 2)

    def test_each_rest_for_itself(self):
        # A kept step in the opening rest doesn't save the closing one.
        self.assertEqual(lost(1, 4, 20, [(3, 17)], [(keep, 0, 1)]), 1 + 1 + 2)
        self.assertEqual(lost(1, 4, 20, [(3, 17)], [(keep, 0, 1), (keep, 19, 20)]), 1 + 1)

    def test_stick_without_a_taking_loses_nothing(self):
        told = run(begin(1, 20), stick(7, 1, 0, 3), stick(8, 1, 100, 5), piece(21, 100, 105), least(21), least())
        self.assertEqual(told[-2:], [[0, 1, 0], [0, 1, 0]])


class KeptBesideCutTest(unittest.TestCase):
    def test_opening_cut(self):
        for step, expected in ((0, 2), (2, 2), (3, None), (4, None)):
            self.assertEqual(lost(2, 3, 20, [(5, 20)], [(keep, step, step + 1)]), expected)

    def test_closing_cut(self):
        for step, expected in ((15, None), (16, None), (17, 2), (19, 2)):
            self.assertEqual(lost(2, 3, 20, [(0, 15)], [(keep, step, step + 1)]), expected)

    def test_both_cuts_between(self):
        for step, expected in ((5, None), (6, None), (7, 4), (9, 4), (10, None), (11, None)):
            self.assertEqual(lost(2, 3, 20, [(0, 5), (12, 20)], [(keep, step, step + 1)]), expected)

    def test_one_cut_between(self):
        for step in (5, 6):
            self.assertIsNone(lost(2, 3, 20, [(0, 5), (7, 20)], [(keep, step, step + 1)]))
            self.assertEqual(lost(2, 3, 20, [(0, 5), (7, 20)], [(spoil, step, step + 1)]), 2)

    def test_two_cuts_without_rest_between(self):
        for step in (5, 6, 7, 8):
            self.assertIsNone(lost(2, 3, 20, [(0, 5), (9, 20)], [(keep, step, step + 1)]))

    def test_kept_beside_a_taking_at_an_end(self):
        self.assertEqual(last(begin(1, 0), stick(7, 1, 0, 10), keep(7, 0, 1), piece(21, 0, 5), least(21)), [0, 0])
        self.assertEqual(lost(1, 0, 20, [(2, 20)], [(keep, 0, 1)]), 1)
        self.assertIsNone(lost(1, 0, 20, [(1, 20)], [(keep, 0, 1)]))


if __name__ == "__main__":
    unittest.main()
