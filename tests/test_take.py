"""take and crack: what becomes of the sticks, and what is refused."""

import unittest

from helper import (BEST, PROMISES, STICKS, begin, can, crack, keep, last, piece, promise, run, spoil, stick, take,
                    withdraw)


def after(calls, taken):
    """The taking's answer, the sticks (six numbers each) and the ids of the promises behind it."""
    told = run(*calls, taken, STICKS, PROMISES)[-3:]
    sticks = [tuple(told[1][at:at + 6]) for at in range(1, len(told[1]), 6)]
    return told[0], sticks, told[2][1::6]


# A saw 2 steps wide, stick 7 from 10 to 30, promise 21 of 4 steps.
CALLS = [begin(2, 3), stick(7, 3, 10, 20), promise(21, 4, 4, 0, 40), promise(22, 15, 20, 0, 40)]


class RestTest(unittest.TestCase):
    def test_no_rest(self):
        self.assertEqual(after(CALLS, take(22, 7, 10, 9)), ([0, 0, 0], [], [21]))
        calls = [begin(2, 3), stick(7, 1, 10, 8), piece(21, 12, 16), piece(22, 10, 16), piece(23, 12, 18)]
        self.assertEqual(after(calls, take(21, 7, 12)), ([0, 4, 0], [], [22, 23]))
        self.assertEqual(after(calls, take(22, 7, 10)), ([0, 2, 0], [], [21, 23]))
        self.assertEqual(after(calls, take(23, 7, 12)), ([0, 2, 0], [], [21, 22]))

    def test_one_rest_behind(self):
        self.assertEqual(after(CALLS, take(21, 7, 10, 9)), ([0, 2, 1], [(7, 3, 16, 30, 0, 0)], [22]))
        self.assertEqual(after(CALLS, take(21, 7, 12, 9)), ([0, 4, 1], [(7, 3, 18, 30, 0, 0)], [22]))

    def test_one_rest_ahead(self):
        self.assertEqual(after(CALLS, take(21, 7, 26, 9)), ([0, 2, 1], [(7, 3, 10, 24, 0, 0)], [22]))
        self.assertEqual(after(CALLS, take(21, 7, 24, 9)), ([0, 4, 1], [(7, 3, 10, 22, 0, 0)], [22]))

    def test_two_rests(self):
        self.assertEqual(after(CALLS, take(21, 7, 18, 9)),
                         ([0, 4, 2], [(7, 3, 10, 16, 0, 0), (9, 3, 24, 30, 0, 0)], [22]))

    def test_short_rests_stay(self):
        self.assertEqual(after(CALLS, take(21, 7, 13, 9)),
                         ([0, 4, 2], [(7, 3, 10, 11, 0, 0), (9, 3, 19, 30, 0, 0)], [22]))
        self.assertEqual(after(CALLS, take(21, 7, 23, 9)),
                         ([0, 4, 2], [(7, 3, 10, 21, 0, 0), (9, 3, 29, 30, 0, 0)], [22]))

    def test_widest_saw(self):
        calls = [begin(5, 20), stick(7, 1, 0, 20), promise(21, 1, 8, 0, 20)]
        self.assertEqual(after(calls, take(21, 7, 6)), ([0, 10, 2], [(7, 1, 0, 1, 0, 0), (1000000000, 1, 19, 20, 0, 0)],
                                                        []))
        self.assertEqual(after(calls, take(21, 7, 5)), ([0, 10, 1], [(7, 1, 18, 20, 0, 0)], []))

    def test_in_its_place_among_the_sticks(self):
        calls = [begin(1, 0), stick(5, 1, 0, 10), stick(7, 2, 0, 10), stick(6, 3, 0, 10), promise(21, 2, 4, 0, 10)]
        ids = [[one[0] for one in after(calls, take(21, 7, place, 1))[1]] for place in (0, 3, 6)]
        self.assertEqual(ids, [[5, 7, 6], [5, 7, 1, 6], [5, 7, 6]])
        whole = calls + [promise(22, 2, 10, 0, 10)]
        self.assertEqual([one[0] for one in after(whole, take(22, 7, 0, 1))[1]], [5, 6])

    def test_kept_and_spoilt_stay_so(self):
        calls = CALLS + [keep(7, 10, 12), keep(7, 29, 30), spoil(7, 11, 18), spoil(7, 22, 25)]
        # Taken are 18 to 22; sawn are 16, 17 and 22, 23, spoilt all of them.
        self.assertEqual(after(calls, take(21, 7, 18, 9)),
                         ([0, 4, 2], [(7, 3, 10, 16, 2, 5), (9, 3, 24, 30, 1, 1)], [22]))

    def test_marks_lie_where_they_lay(self):
        calls = CALLS + [keep(7, 12, 13), spoil(7, 26, 28), withdraw(22), promise(1, 4, 1, 0, 40), take(21, 7, 18, 9)]
        self.assertEqual(run(*calls, can(1, 7), can(1, 9))[-2:], [[0, 10, 11, 13, 14, 15], [0, 24, 25, 28, 29]])

    def test_next_takings(self):
        calls = [begin(1, 0), stick(7, 1, 0, 10), promise(1, 1, 3, 0, 10), promise(2, 1, 3, 0, 10),
                 promise(3, 1, 2, 0, 10)]
        told = run(*calls, take(2, 7, 3, 8), BEST, take(1, 8, 7), STICKS, take(3, 7, 0), STICKS)[5:]
        self.assertEqual(told, [[0, 2, 2], [0, 1, 0, 8, 7, 7, 0], [0, 0, 0], [0, 7, 1, 0, 2, 0, 0], [0, 0, 0], [0]])


class RefusedTakeTest(unittest.TestCase):
    def assert_refused(self, number, calls, refused):
        told = run(*calls, STICKS, PROMISES, refused, STICKS, PROMISES)[-5:]
        with self.subTest(calls=calls, refused=refused):
            self.assertEqual(told[2], [number])
            self.assertEqual(told[3:], told[:2])

    def test_no_such_promise_or_stick(self):
        self.assert_refused(-4, CALLS, take(23, 7, 10))
        self.assert_refused(-4, CALLS, take(7, 7, 10))
        self.assert_refused(-3, CALLS, take(21, 8, 10))
        self.assert_refused(-3, CALLS, take(21, 21, 10))
        self.assert_refused(-4, CALLS, take(23, 8, 10))
        self.assert_refused(-4, CALLS + [take(21, 7, 10)], take(21, 7, 20))
        self.assert_refused(-3, CALLS + [take(22, 7, 10)], take(21, 7, 10))
        self.assert_refused(-3, CALLS, take(21, 8, 0, 7))

    def test_can_not_be_taken_there(self):
        for place in (0, 9, 27, 30, 1000):
            self.assert_refused(-12, CALLS, take(21, 7, place))
        self.assert_refused(-12, [begin(1, 0), stick(7, 3, 0, 10), promise(21, 11, 4, 0, 10)], take(21, 7, 0))
        stretch = [begin(1, 0), stick(7, 1, 0, 10), promise(21, 1, 4, 2, 8)]
        for place, number in ((1, -12), (5, -12)):
            self.assert_refused(number, stretch, take(21, 7, place))
        for mark in (keep, spoil):
            self.assert_refused(-12, CALLS + [mark(7, 21, 22)], take(21, 7, 18))

    def test_gap_not_as_told(self):
        self.assert_refused(-12, CALLS, take(21, 7, 11))
        self.assert_refused(-12, CALLS, take(21, 7, 25))

    def test_kept_step_to_the_saw(self):
        for step in (16, 17, 22, 23):
            self.assert_refused(-12, CALLS + [keep(7, step, step + 1)], take(21, 7, 18))
        for step in (15, 24):
            self.assertEqual(last(*CALLS, keep(7, step, step + 1), take(21, 7, 18)), [0, 4, 2])

    def test_other_id_is_or_was_there(self):
        self.assert_refused(-6, CALLS, take(21, 7, 18, 7))
        self.assert_refused(-6, CALLS + [stick(8, 1, 0, 4)], take(21, 7, 18, 8))
        gone = CALLS + [stick(8, 1, 0, 4), piece(30, 0, 4), take(30, 8, 0)]
        self.assert_refused(-6, gone, take(21, 7, 18, 8))
        self.assertEqual(last(*CALLS, take(21, 7, 18, 21)), [0, 4, 2])

    def test_other_id_counts_for_nothing_without_two_rests(self):
        for place in (10, 12, 24, 26):
            self.assertEqual(last(*CALLS, take(21, 7, place, 7))[0], 0)
            self.assertEqual(run(*CALLS, take(21, 7, place, 8), stick(8, 1, 0, 4))[-2:][1], [0])
        self.assertEqual(last(*CALLS, take(22, 7, 10, 7)), [0, 0, 0])

    def test_out_of_range_though_it_is_not_needed(self):
        for other in (0, -1, 1000000001):
            self.assert_refused(-1, CALLS, take(22, 7, 10, other))
            self.assert_refused(-1, CALLS, take(23, 8, 10, other))

    def test_five_sticks(self):
        full = CALLS + [stick(n, 1, 0, 4) for n in (1, 2, 3, 4)]
        self.assert_refused(-7, full, take(21, 7, 18, 9))
        self.assert_refused(-6, full, take(21, 7, 18, 4))
        self.assert_refused(-12, full, take(21, 7, 11, 4))
        self.assertEqual(last(*full, take(21, 7, 10, 9)), [0, 2, 1])
        self.assertEqual(last(*full, take(21, 7, 10, 4)), [0, 2, 1])
        self.assertEqual(run(*full, take(22, 7, 10, 9), stick(8, 1, 0, 4), stick(9, 1, 0, 4))[-3:],
                         [[0, 0, 0], [0], [-7]])
        four = CALLS + [stick(n, 1, 0, 4) for n in (1, 2, 3)]
        self.assertEqual(run(*four, take(21, 7, 18, 9), stick(8, 1, 0, 4))[-2:], [[0, 4, 2], [-7]])

    def test_refused_other_id_may_come_again(self):
        self.assertEqual(run(*CALLS, take(21, 7, 11, 9), take(21, 7, 18, 9))[-2:], [[-12], [0, 4, 2]])
        full = CALLS + [stick(n, 1, 0, 4) for n in (1, 2, 3, 4)] + [piece(30, 0, 4)]
        self.assertEqual(run(*full, take(21, 7, 18, 9), take(30, 1, 0), stick(9, 1, 0, 4))[-3:], [[-7], [0, 0, 0], [0]])


class KnownIdsTest(unittest.TestCase):
    def test_stick_s_id_that_was_there(self):
        gone = CALLS + [take(22, 7, 10)]
        self.assertEqual(run(*gone, stick(7, 1, 0, 4), stick(8, 1, 0, 4), crack(8, 2, 7))[-3:], [[-6], [0], [-6]])

    def test_other_id_that_is_and_was_there(self):
        self.assertEqual(run(*CALLS, take(21, 7, 18, 9), stick(9, 1, 0, 4))[-2:], [[0, 4, 2], [-6]])
        calls = CALLS + [take(21, 7, 18, 9), withdraw(22), promise(30, 15, 6, 24, 30), take(30, 9, 24)]
        self.assertEqual(run(*calls, STICKS, stick(9, 1, 0, 4))[-3:], [[0, 0, 0], [0, 7, 3, 10, 16, 0, 0], [-6]])

    def test_promise_s_id_that_was_there(self):
        self.assertEqual(run(*CALLS, take(21, 7, 18, 9), promise(21, 1, 4, 0, 10), withdraw(21))[-2:], [[-10], [-4]])

    def test_a_promise_more_fits_behind_a_taking(self):
        five = CALLS + [promise(n, 1, 4, 0, 10) for n in (1, 2, 3)]
        self.assertEqual(run(*five, promise(4, 1, 4, 0, 10), take(21, 7, 10), promise(4, 1, 4, 0, 10),
                             promise(5, 1, 4, 0, 10))[-4:], [[-7], [0, 2, 1], [0], [-7]])


class CrackTest(unittest.TestCase):
    CALLS = [begin(1, 0), stick(5, 1, 0, 10), stick(7, 2, 10, 10), stick(6, 3, 0, 10)]

    def sticks(self, *calls):
        told = last(*self.CALLS, *calls, STICKS)
        return [tuple(told[at:at + 6]) for at in range(1, len(told), 6)]

    def test_right_behind_it(self):
        self.assertEqual(last(*self.CALLS, crack(7, 14, 1)), [0])
        self.assertEqual(self.sticks(crack(7, 14, 1)), [(5, 1, 0, 10, 0, 0), (7, 2, 10, 14, 0, 0),
                                                        (1, 2, 14, 20, 0, 0), (6, 3, 0, 10, 0, 0)])

    def test_at_a_stick_s_ends(self):
        for place in (0, 9, 10, 20, 21, 1000):
            self.assertEqual(run(*self.CALLS, crack(7, place, 1), STICKS)[-2:],
                             [[-9], last(*self.CALLS, STICKS)])
        for place in (11, 19):
            self.assertEqual(self.sticks(crack(7, place, 1))[1:3], [(7, 2, 10, place, 0, 0), (1, 2, place, 20, 0, 0)])

    def test_stick_of_one_step(self):
        for place in (0, 1):
            self.assertEqual(last(begin(1, 0), stick(7, 1, 0, 1), crack(7, place, 8)), [-9])
        self.assertEqual(last(begin(1, 0), stick(7, 1, 0, 2), crack(7, 1, 8)), [0])

    def test_kept_and_spoilt_stay_so(self):
        self.assertEqual(self.sticks(keep(7, 12, 16), spoil(7, 10, 11), spoil(7, 13, 19), crack(7, 15, 1))[1:3],
                         [(7, 2, 10, 15, 3, 3), (1, 2, 15, 20, 1, 4)])
        self.assertEqual(self.sticks(keep(7, 12, 14), crack(7, 14, 1), keep(1, 14, 15), spoil(7, 10, 11))[1:3],
                         [(7, 2, 10, 14, 2, 1), (1, 2, 14, 20, 1, 0)])

    def test_refusals_and_their_order(self):
        full = self.CALLS + [stick(8, 1, 0, 10), stick(9, 1, 0, 10)]
        for calls, refused, number in ((self.CALLS, crack(8, 14, 1), -3), (self.CALLS, crack(7, 14, 7), -6),
                                       (self.CALLS, crack(7, 14, 5), -6), (full, crack(7, 14, 1), -7),
                                       (full, crack(1, 10, 7), -3), (full, crack(7, 10, 7), -9),
                                       (full, crack(7, 10, 1), -9), (full, crack(7, 14, 6), -6)):
            with self.subTest(refused=refused):
                self.assertEqual(run(*calls, refused, STICKS)[-2:], [[number], last(*calls, STICKS)])

    def test_other_id_that_was_there(self):
        calls = self.CALLS + [piece(21, 0, 10), take(21, 5, 0)]
        self.assertEqual(run(*calls, crack(7, 14, 5), crack(7, 14, 21))[-2:], [[-6], [0]])

    def test_refused_other_id_may_come_again(self):
        self.assertEqual(run(*self.CALLS, crack(7, 10, 1), crack(7, 11, 1), stick(1, 1, 0, 4))[-3:],
                         [[-9], [0], [-6]])

    def test_to_five_sticks(self):
        told = run(*self.CALLS, crack(7, 14, 1), crack(1, 17, 2), crack(7, 12, 3), STICKS)[-4:]
        self.assertEqual(told[:3], [[0], [0], [-7]])
        self.assertEqual(told[3][1::6], [5, 7, 1, 2, 6])

    def test_no_piece_over_a_crack(self):
        calls = [begin(1, 0), stick(7, 1, 0, 10), promise(21, 1, 6, 0, 10)]
        self.assertEqual(run(*calls, BEST, crack(7, 5, 8), BEST)[-3:], [[0, 1, 1, 7, 0], [0], [0, 0]])
        self.assertEqual(run(*calls, crack(7, 4, 8), BEST)[-1], [0, 1, 0, 8, 4])


if __name__ == "__main__":
    unittest.main()
