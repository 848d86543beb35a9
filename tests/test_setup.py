"""begin, stick, keep, spoil, promise, withdraw, sticks, promises."""

import unittest

from helper import BEST, PROMISES, STICKS, begin, keep, last, least, piece, promise, run, spoil, stick, withdraw


class BeginTest(unittest.TestCase):
    def test_once_alone(self):
        self.assertEqual(run(begin(1, 3), begin(1, 3), begin(2, 4)), [[0], [-5], [-5]])

    def test_refused_begin_leaves_saw_and_short(self):
        calls = [stick(7, 1, 0, 10), piece(21, 3, 10), BEST]
        self.assertEqual(last(begin(1, 2), begin(3, 0), *calls), [0, 1, 1, 7, 3])
        self.assertEqual(last(begin(3, 0), begin(1, 2), *calls), [0, 1, 3, 7, 3])

    def test_takes_away_nothing_when_refused(self):
        self.assertEqual(last(begin(1, 3), stick(7, 1, 0, 10), begin(1, 3), STICKS), [0, 7, 1, 0, 10, 0, 0])


class StickTest(unittest.TestCase):
    def test_told_in_order(self):
        self.assertEqual(run(begin(1, 3), STICKS, stick(9, 4, 990, 10), STICKS, stick(2, 1, 0, 20), STICKS),
                         [[0], [0], [0], [0, 9, 4, 990, 1000, 0, 0], [0],
                          [0, 9, 4, 990, 1000, 0, 0, 2, 1, 0, 20, 0, 0]])

    def test_id_that_is_there(self):
        self.assertEqual(run(begin(1, 3), stick(7, 1, 0, 10), stick(7, 2, 5, 5), STICKS)[2:],
                         [[-6], [0, 7, 1, 0, 10, 0, 0]])

    def test_an_id_of_a_promise_is_none_of_a_stick(self):
        self.assertEqual(run(begin(1, 3), promise(7, 1, 4, 0, 10), stick(7, 1, 0, 10), stick(8, 1, 0, 10),
                             promise(8, 1, 4, 0, 10)), [[0]] * 5)

    def test_fifth_and_sixth(self):
        five = [stick(n, 1, n, 10) for n in (1, 2, 3, 4, 5)]
        told = run(begin(1, 3), *five, stick(6, 1, 0, 10), STICKS)
        self.assertEqual(told[:-2], [[0]] * 6)
        self.assertEqual(told[-2], [-7])
        self.assertEqual(len(told[-1]), 1 + 5 * 6)

    def test_end_at_1000_and_above(self):
        for place, steps in ((999, 1), (980, 20)):
            self.assertEqual(last(begin(1, 3), stick(7, 1, place, steps)), [0])
        for place, steps in ((1000, 1), (999, 2), (981, 20), (1000, 20)):
            self.assertEqual(run(begin(1, 3), stick(7, 1, place, steps), STICKS)[1:], [[-8], [0]])

    def test_refused_id_may_come_again(self):
        self.assertEqual(run(begin(1, 3), stick(7, 1, 1000, 1), stick(7, 5, 0, 1), stick(7, 1, 0, 1)),
                         [[0], [-8], [-1], [0]])

    def test_order_of_refusals(self):
        five = [begin(1, 3)] + [stick(n, 1, 0, 10) for n in (1, 2, 3, 4, 5)]
        self.assertEqual(last(*five, stick(5, 1, 1000, 20)), [-6])
        self.assertEqual(last(*five, stick(6, 1, 1000, 20)), [-7])
        self.assertEqual(last(begin(1, 3), stick(5, 1, 0, 10), stick(5, 1, 1000, 20)), [-6])


class MarkTest(unittest.TestCase):
    def counts(self, *marks):
        return last(begin(1, 3), stick(7, 1, 10, 10), *marks, STICKS)[-2:]

    def test_counts(self):
        self.assertEqual(self.counts(keep(7, 12, 15)), [3, 0])
        self.assertEqual(self.counts(spoil(7, 12, 15)), [0, 3])
        self.assertEqual(self.counts(keep(7, 12, 15), spoil(7, 14, 18)), [3, 4])

    def test_steps_are_added_and_counted_once(self):
        self.assertEqual(self.counts(keep(7, 12, 15), keep(7, 14, 16), keep(7, 12, 13)), [4, 0])
        self.assertEqual(self.counts(spoil(7, 12, 15), spoil(7, 18, 20), spoil(7, 12, 15)), [0, 5])

    def test_whole_stick_and_its_end_steps(self):
        for mark, whole in ((keep, [10, 0]), (spoil, [0, 10])):
            self.assertEqual(self.counts(mark(7, 10, 20)), whole)
            self.assertEqual(self.counts(mark(7, 10, 11), mark(7, 19, 20)), [number // 5 for number in whole])

    def test_one_stick_of_two_that_lie_alike(self):
        self.assertEqual(last(begin(1, 3), stick(7, 1, 10, 10), stick(8, 1, 10, 10), keep(8, 12, 14),
                              spoil(7, 13, 14), STICKS), [0, 7, 1, 10, 20, 0, 1, 8, 1, 10, 20, 2, 0])

    def test_bad_places(self):
        for mark in (keep, spoil):
            for first, end in ((15, 15), (16, 15), (9, 12), (15, 21), (9, 21), (10, 10), (20, 20), (20, 10),
                               (5, 8), (25, 28), (20, 21), (9, 10)):
                with self.subTest(first=first, end=end):
                    self.assertEqual(run(begin(1, 3), stick(7, 1, 10, 10), mark(7, first, end), STICKS)[2:],
                                     [[-9], [0, 7, 1, 10, 20, 0, 0]])

    def test_no_stick_goes_ahead_of_bad_places(self):
        for mark in (keep, spoil):
            self.assertEqual(last(begin(1, 3), stick(7, 1, 10, 10), mark(8, 12, 14)), [-3])
            self.assertEqual(last(begin(1, 3), stick(7, 1, 10, 10), mark(8, 14, 12)), [-3])
            self.assertEqual(last(begin(1, 3), promise(8, 1, 4, 0, 10), mark(8, 12, 14)), [-3])

    def test_neither_can_be_taken(self):
        for mark in (keep, spoil):
            calls = [begin(1, 0), stick(7, 1, 10, 10), mark(7, 13, 14)]
            self.assertEqual(last(*calls, piece(21, 10, 14), BEST), [0, 0])
            self.assertEqual(last(*calls, piece(21, 13, 14), BEST), [0, 0])
            self.assertEqual(last(*calls, promise(21, 1, 7, 0, 1000), BEST), [0, 0])
            self.assertEqual(last(*calls, promise(21, 1, 5, 0, 1000), BEST), [0, 1, 1, 7, 15])
        # Spoilt ice may go to the saw, kept ice may not.
        self.assertEqual(last(begin(1, 0), stick(7, 1, 10, 10), spoil(7, 13, 14), piece(21, 14, 20), BEST),
                         [0, 1, 1, 7, 14])
        self.assertEqual(last(begin(1, 0), stick(7, 1, 10, 10), keep(7, 13, 14), piece(21, 14, 20), BEST), [0, 0])


class PromiseTest(unittest.TestCase):
    def test_told_in_order(self):
        self.assertEqual(run(begin(1, 3), PROMISES, promise(30, 15, 20, 0, 1000, 1000), PROMISES,
                             promise(4, 2, 1, 7, 8, 0), PROMISES),
                         [[0], [0], [0], [0, 30, 15, 20, 0, 1000, 1000], [0],
                          [0, 30, 15, 20, 0, 1000, 1000, 4, 2, 1, 7, 8, 0]])

    def test_places_must_rise(self):
        for place, other in ((5, 5), (6, 5), (0, 0), (1000, 1000), (1000, 0)):
            self.assertEqual(run(begin(1, 3), promise(21, 1, 4, place, other), PROMISES)[1:], [[-9], [0]])
        self.assertEqual(last(begin(1, 3), promise(21, 1, 4, 999, 1000)), [0])

    def test_stretch_shorter_than_the_length_is_let(self):
        self.assertEqual(run(begin(1, 3), stick(7, 1, 0, 10), promise(21, 1, 4, 0, 3), BEST)[2:], [[0], [0, 0]])

    def test_id_that_is_or_was_there(self):
        self.assertEqual(run(begin(1, 3), promise(21, 1, 4, 0, 10), promise(21, 2, 5, 0, 9), withdraw(21),
                             promise(21, 1, 4, 0, 10), PROMISES),
                         [[0], [0], [-10], [0], [-10], [0]])

    def test_refused_id_may_come_again(self):
        self.assertEqual(run(begin(1, 3), promise(21, 1, 4, 10, 0), promise(21, 1, 4, 0, 10)), [[0], [-9], [0]])

    def test_fifth_and_sixth(self):
        five = [promise(n, 1, 4, 0, 10) for n in (1, 2, 3, 4, 5)]
        told = run(begin(1, 3), *five, promise(6, 1, 4, 0, 10), PROMISES, withdraw(2), promise(6, 1, 4, 0, 10),
                   promise(7, 1, 4, 0, 10), PROMISES)
        self.assertEqual(told[:6], [[0]] * 6)
        self.assertEqual(told[6], [-7])
        self.assertEqual(told[7][1::6], [1, 2, 3, 4, 5])
        self.assertEqual(told[8:11], [[0], [0], [-7]])
        self.assertEqual(told[11][1::6], [1, 3, 4, 5, 6])

    def test_order_of_refusals(self):
        five = [begin(1, 3)] + [promise(n, 1, 4, 0, 10) for n in (1, 2, 3, 4, 5)]
        self.assertEqual(last(*five, promise(5, 1, 4, 10, 0)), [-10])
        self.assertEqual(last(*five, promise(6, 1, 4, 10, 0)), [-7])
        self.assertEqual(last(*five, withdraw(5), promise(5, 1, 4, 10, 0)), [-10])

    def test_lanes(self):
        for lane in (1, 2, 3, 4):
            for lanes in range(1, 16):
                fits = lanes // 2 ** (lane - 1) % 2 == 1
                told = last(begin(1, 3), stick(7, lane, 0, 4), promise(21, lanes, 4, 0, 10), BEST)
                self.assertEqual(told, [0, 1, 0, 7, 0] if fits else [0, 0])

    def test_within_stick_and_stretch(self):
        calls = [begin(1, 0), stick(7, 1, 10, 10)]
        for place, other, found in ((0, 1000, 10), (10, 20, 10), (10, 14, 10), (16, 20, 16), (0, 14, 10),
                                    (16, 1000, 16), (11, 20, 16), (11, 19, 11), (12, 16, 12)):
            with self.subTest(place=place, other=other):
                told = last(*calls, promise(21, 1, 4, place, other), BEST)
                self.assertEqual(told[3:], [7, found])
        for place, other in ((0, 13), (17, 1000), (12, 15), (0, 5), (30, 50), (13, 14), (0, 10), (20, 30)):
            with self.subTest(place=place, other=other):
                self.assertEqual(last(*calls, promise(21, 1, 4, place, other), BEST), [0, 0])


class WithdrawTest(unittest.TestCase):
    def test_not_there_any_more(self):
        self.assertEqual(run(begin(1, 3), promise(21, 1, 4, 0, 10), promise(22, 1, 5, 0, 10),
                             promise(23, 1, 6, 0, 10), withdraw(22), PROMISES, withdraw(22), withdraw(21),
                             PROMISES)[4:],
                         [[0], [0, 21, 1, 4, 0, 10, 1, 23, 1, 6, 0, 10, 1], [-4], [0],
                          [0, 23, 1, 6, 0, 10, 1]])

    def test_no_such_promise(self):
        self.assertEqual(run(begin(1, 3), withdraw(21), stick(21, 1, 0, 10), withdraw(21)),
                         [[0], [-4], [0], [-4]])

    def test_best_goes_along(self):
        calls = [begin(1, 3), stick(7, 1, 0, 10), promise(21, 1, 4, 0, 10), promise(22, 1, 5, 0, 10),
                 promise(23, 1, 4, 0, 10)]
        self.assertEqual(run(*calls, BEST, withdraw(21), BEST, least(21), least(22, 23))[5:],
                         [[0, 0], [0], [0, 1, 1, 7, 0, 7, 6], [-4], [0, 1, 1]])

    def test_numbers_follow_the_order_told_without_it(self):
        # 22 and 23 are alike: the one told first has the lesser number.
        told = last(begin(1, 0), stick(7, 1, 0, 9), promise(23, 1, 4, 0, 9), promise(22, 1, 4, 0, 9),
                    withdraw(23), promise(24, 1, 4, 0, 9), BEST)
        self.assertEqual(told, [0, 1, 1, 7, 0, 7, 5])


if __name__ == "__main__":
    unittest.main()
