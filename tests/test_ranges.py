"""Each argument's range: both ends are taken, what's beyond is refused with -1 ahead of all else."""

import unittest

from helper import (BEST, CLASH, MOST, PLAN, PROMISES, STICKS, begin, behind, can, check, crack, keep, last, least,
                    promise, rests, run, spares, spoil, stick, table, take, where, withdraw)

HUGE = 10 ** 18
IDS = (1, 1000000000)
PLACES = (0, 1000)

# For each call: a call whose arguments are all in their ranges, and the ranges.
FORMS = [
    (begin(1, 3), [(1, 5), (0, 20)]),
    (stick(7, 1, 0, 10), [IDS, (1, 4), PLACES, (1, 20)]),
    (keep(7, 0, 10), [IDS, PLACES, PLACES]),
    (spoil(7, 0, 10), [IDS, PLACES, PLACES]),
    (promise(21, 1, 4, 0, 10, 5), [IDS, (1, 15), (1, 20), PLACES, PLACES, (0, 1000)]),
    (withdraw(21), [IDS]),
    (can(21, 7), [IDS, IDS]),
    (where(21), [IDS]),
    (spares(21), [IDS]),
    (take(21, 7, 3, 8), [IDS, IDS, PLACES, IDS]),
    (crack(7, 5, 8), [IDS, PLACES, IDS]),
    (table(0), [(0, 5)]),
    (behind(7, 5, 1), [IDS, PLACES, (0, 31)]),
]


class RangeTest(unittest.TestCase):
    def each(self):
        for call, ranges in FORMS:
            for number, bounds in enumerate(ranges):
                yield call, number + 1, bounds

    def test_beyond_either_end_is_refused(self):
        for call, where, (low, high) in self.each():
            for value in (low - 1, high + 1, -HUGE, HUGE):
                changed = list(call)
                changed[where] = value
                with self.subTest(call=changed):
                    self.assertEqual(last(changed), [-1])
                    self.assertEqual(last(begin(1, 3), changed), [-1])

    def test_both_ends_are_in_range(self):
        for call, where, bounds in self.each():
            for value in bounds:
                changed = list(call)
                changed[where] = value
                with self.subTest(call=changed):
                    self.assertNotEqual(last(changed), [-1])
                    self.assertNotEqual(last(begin(1, 3), changed), [-1])

    def test_both_ends_answer_0_where_nothing_else_stands_against_it(self):
        for w in (1, 5):
            for m in (0, 20):
                self.assertEqual(last(begin(w, m)), [0])
        for ident in IDS:
            for lane in (1, 4):
                for place, steps in ((0, 1), (0, 20), (999, 1), (980, 20)):
                    self.assertEqual(last(begin(1, 0), stick(ident, lane, place, steps)), [0])
            bench = [begin(1, 0), stick(ident, 1, 0, 10), stick(2, 1, 990, 10), promise(ident, 1, 4, 0, 1000)]
            other = 1000000001 - ident
            self.assertEqual(last(*bench, take(ident, ident, 3, other)), [0, 2, 2])
            self.assertEqual(last(*bench, crack(ident, 5, other)), [0])
            self.assertEqual(run(*bench, can(ident, ident), where(ident), spares(ident))[-3:],
                             [[0, 0, 1, 2, 3, 4, 5, 6], [0, 1, 1, 1, 1], [0, 1, 1]])
            for place, asked in ((0, ident), (10, ident), (990, 2), (1000, 2)):
                self.assertEqual(last(*bench, behind(asked, place, 0)), [0, 1, int(place in (0, 990))])
            for lanes in (1, 15):
                for length in (1, 20):
                    for worth in (0, 1000):
                        call = promise(ident, lanes, length, 0, 1000, worth)
                        self.assertEqual(last(begin(1, 0), call), [0])

    def test_list_of_least(self):
        for value in (0, -1, 1000000001, HUGE, -HUGE):
            for idents in ((value,), (21, value), (value, 21), (21, 21, value), (99, value)):
                with self.subTest(idents=idents):
                    self.assertEqual(last(least(*idents)), [-1])
                    self.assertEqual(last(begin(1, 3), promise(21, 1, 4, 0, 10), least(*idents)), [-1])
        for value in IDS:
            self.assertEqual(last(least(value)), [-2])
            self.assertEqual(last(begin(1, 3), least(value)), [-4])

    def test_bytes_of_a_text(self):
        for asked in (check, rests):
            for value in (-1, 256, 1000000000, HUGE, -HUGE):
                for text in ((value,), (32, value), (value, 32), (35, value), (59, value), (value,) * 600):
                    with self.subTest(text=text[:3]):
                        self.assertEqual(last(asked(text)), [-1])
                        self.assertEqual(last(begin(1, 3), asked(text)), [-1])
            for value in (0, 255):
                self.assertEqual(last(asked([value])), [-2])
                self.assertEqual(last(begin(1, 3), asked([value])), [0, 0, 1, 0])
                self.assertEqual(last(begin(1, 3), asked([32] * 599 + [value])), [0, 0, 1, 599])

    def test_refused_begin_has_not_begun(self):
        self.assertEqual(run(begin(0, 3), STICKS, begin(1, 21), STICKS, begin(5, 20), STICKS),
                         [[-1], [-2], [-1], [-2], [0], [0]])

    def test_out_of_range_goes_ahead_of_every_other_refusal(self):
        full = [begin(1, 3)] + [stick(n, 1, 0, 10) for n in (1, 2, 3, 4, 5)]
        full += [promise(n, 1, 4, 0, 10) for n in (1, 2, 3, 4, 5)]
        self.assertEqual(last(*full, begin(6, 3)), [-1])
        self.assertEqual(last(*full, stick(1, 5, 1000, 20)), [-1])
        self.assertEqual(last(*full, keep(9, 5, 1001)), [-1])
        self.assertEqual(last(*full, spoil(9, -1, 5)), [-1])
        self.assertEqual(last(*full, promise(1, 16, 4, 10, 0)), [-1])
        self.assertEqual(last(*full, withdraw(0)), [-1])
        self.assertEqual(last(*full, can(9, 0)), [-1])
        for call in (take(9, 1, 0, 0), take(1, 9, 0, 0), take(1, 1, 9, 0), take(1, 1, 3, 0), take(9, 9, 1001, 1)):
            self.assertEqual(last(*full, call), [-1])
        for call in (crack(9, 5, 0), crack(1, 0, 0), crack(1, 5, 0), crack(9, 1001, 1)):
            self.assertEqual(last(*full, call), [-1])
        for call in (behind(9, 5, 32), behind(1, 11, 32), behind(1, 5, 32), behind(9, 5, -1), behind(9, 1001, 0)):
            self.assertEqual(last(*full, call), [-1])


class NotBegunTest(unittest.TestCase):
    def test_all_but_begin_are_refused(self):
        calls = [stick(7, 1, 0, 10), keep(7, 0, 5), spoil(7, 0, 5), promise(21, 1, 4, 0, 10), withdraw(21),
                 STICKS, PROMISES, BEST, PLAN, least(), least(21), least(21, 21)]
        self.assertEqual(run(*calls), [[-2]] * len(calls))
        calls = [CLASH, MOST, check(""), check("take 21 from 7 at 0;"), can(21, 7), rests(""), where(21), spares(21),
                 take(21, 7, 0, 8), crack(7, 5, 8), table(0), table(5), behind(7, 0, 0)]
        self.assertEqual(run(*calls), [[-2]] * len(calls))

    def test_goes_ahead_of_what_comes_later(self):
        calls = [stick(7, 1, 1000, 20), keep(7, 5, 0), spoil(7, 5, 0), promise(21, 1, 4, 10, 0), check("#"), rests("#"),
                 take(21, 7, 1000, 7), crack(7, 0, 7), behind(7, 1000, 31)]
        self.assertEqual(run(*calls), [[-2]] * len(calls))

    def test_refused_calls_leave_nothing(self):
        self.assertEqual(run(stick(7, 1, 0, 10), promise(21, 1, 4, 0, 10), begin(1, 3), STICKS, PROMISES,
                             stick(7, 1, 0, 10), promise(21, 1, 4, 0, 10)),
                         [[-2], [-2], [0], [0], [0], [0], [0]])


if __name__ == "__main__":
    unittest.main()
