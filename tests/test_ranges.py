"""Each argument's range: both ends are taken, what's beyond is refused with -1 ahead of all else."""

import unittest

from helper import BEST, PLAN, PROMISES, STICKS, begin, keep, last, least, promise, run, spoil, stick, withdraw

HUGE = 10 ** 18
IDS = (1, 1000000000)
PLACES = (0, 1000)

# For each call: a call whose arguments are all in their ranges, and the ranges.
FORMS = [
    (begin(1, 3), [(1, 5), (0, 20)]),
    (stick(7, 1, 0, 10), [IDS, (1, 4), PLACES, (1, 20)]),
    (keep(7, 0, 10), [IDS, PLACES, PLACES]),
    (spoil(7, 0, 10), [IDS, PLACES, PLACES]),
    (promise(21, 1, 4, 0, 10, 5), [IDS, (1, 15), (1, 20), PLACES, PLACES, (0, 1000)]),
    (withdraw(21), [IDS]),
]


class RangeTest(unittest.TestCase):
    def each(self):
        for call, ranges in FORMS:
            for number, bounds in enumerate(ranges):
                yield call, number + 1, bounds

    def test_beyond_either_end_is_refused(self):
        for call, where, (low, high) in self.each():
            for value in (low - 1, high + 1, -HUGE, HUGE):
                changed = list(call)
                changed[where] = value
                with self.subTest(call=changed):
                    self.assertEqual(last(changed), [-1])
                    self.assertEqual(last(begin(1, 3), changed), [-1])

    def test_both_ends_are_in_range(self):
        for call, where, bounds in self.each():
            for value in bounds:
                changed = list(call)
                changed[where] = value
                with self.subTest(call=changed):
                    self.assertNotEqual(last(changed), [-1])
                    self.assertNotEqual(last(begin(1, 3), changed), [-1])

    def test_both_ends_answer_0_where_nothing_else_stands_against_it(self):
        for w in (1, 5):
            for m in (0, 20):
                self.assertEqual(last(begin(w, m)), [0])
        for ident in IDS:
            for lane in (1, 4):
                for place, steps in ((0, 1), (0, 20), (999, 1), (980, 20)):
                    self.assertEqual(last(begin(1, 0), stick(ident, lane, place, steps)), [0])
            for lanes in (1, 15):
                for length in (1, 20):
                    for worth in (0, 1000):
                        call = promise(ident, lanes, length, 0, 1000, worth)
                        self.assertEqual(last(begin(1, 0), call), [0])

    def test_list_of_least(self):
        for value in (0, -1, 1000000001, HUGE, -HUGE):
            for idents in ((value,), (21, value), (value, 21), (21, 21, value), (99, value)):
                with self.subTest(idents=idents):
                    self.assertEqual(last(least(*idents)), [-1])
                    self.assertEqual(last(begin(1, 3), promise(21, 1, 4, 0, 10), least(*idents)), [-1])
        for value in IDS:
            self.assertEqual(last(least(value)), [-2])
            self.assertEqual(last(begin(1, 3), least(value)), [-4])

    def test_refused_begin_has_not_begun(self):
        self.assertEqual(run(begin(0, 3), STICKS, begin(1, 21), STICKS, begin(5, 20), STICKS),
                         [[-1], [-2], [-1], [-2], [0], [0]])

    def test_out_of_range_goes_ahead_of_every_other_refusal(self):
        full = [begin(1, 3)] + [stick(n, 1, 0, 10) for n in (1, 2, 3, 4, 5)]
        full += [promise(n, 1, 4, 0, 10) for n in (1, 2, 3, 4, 5)]
        self.assertEqual(last(*full, begin(6, 3)), [-1])
        self.assertEqual(last(*full, stick(1, 5, 1000, 20)), [-1])
        self.assertEqual(last(*full, keep(9, 5, 1001)), [-1])
        self.assertEqual(last(*full, spoil(9, -1, 5)), [-1])
        self.assertEqual(last(*full, promise(1, 16, 4, 10, 0)), [-1])
        self.assertEqual(last(*full, withdraw(0)), [-1])


class NotBegunTest(unittest.TestCase):
    def test_all_but_begin_are_refused(self):
        calls = [stick(7, 1, 0, 10), keep(7, 0, 5), spoil(7, 0, 5), promise(21, 1, 4, 0, 10), withdraw(21),
                 STICKS, PROMISES, BEST, PLAN, least(), least(21), least(21, 21)]
        self.assertEqual(run(*calls), [[-2]] * len(calls))

    def test_goes_ahead_of_what_comes_later(self):
        calls = [stick(7, 1, 1000, 20), keep(7, 5, 0), spoil(7, 5, 0), promise(21, 1, 4, 10, 0)]
        self.assertEqual(run(*calls), [[-2]] * len(calls))

    def test_refused_calls_leave_nothing(self):
        self.assertEqual(run(stick(7, 1, 0, 10), promise(21, 1, 4, 0, 10), begin(1, 3), STICKS, PROMISES,
                             stick(7, 1, 0, 10), promise(21, 1, 4, 0, 10)),
                         [[-2], [-2], [0], [0], [0], [0], [0]])


if __name__ == "__main__":
    unittest.main()
