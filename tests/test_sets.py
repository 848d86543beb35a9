"""clash, most, can, where, spares, table and behind, by hand."""

import unittest

from helper import (BEST, CLASH, MOST, STICKS, begin, behind, can, crack, keep, last, least, piece, promise, run, spares,
                    spoil, stick, table, take, where, withdraw)

EXAMPLE = [begin(1, 3), stick(7, 1, 0, 10), promise(21, 1, 4, 0, 10, 5), promise(22, 1, 5, 0, 10, 6)]
# Only one of these two can be kept.
RIVALS = [begin(1, 0), stick(7, 1, 0, 10), promise(21, 1, 5, 0, 10, 4), promise(22, 1, 5, 0, 10, 4)]


class ClashTest(unittest.TestCase):
    def test_none_if_all_can_be_kept(self):
        self.assertEqual(last(*EXAMPLE, CLASH), [0])
        self.assertEqual(last(begin(1, 3), CLASH), [0])
        self.assertEqual(last(begin(1, 3), stick(7, 1, 0, 10), CLASH), [0])

    def test_no_stick(self):
        self.assertEqual(last(begin(1, 3), promise(21, 1, 5, 0, 10), CLASH), [0, 21])
        self.assertEqual(last(begin(1, 3), promise(21, 1, 5, 0, 10), promise(22, 1, 5, 0, 10), CLASH), [0, 22])

    def test_two_rivals(self):
        self.assertEqual(last(*RIVALS, CLASH), [0, 21, 22])

    def test_earlier_ones_are_left_out_first(self):
        calls = [begin(1, 0), stick(7, 1, 0, 10)] + [promise(n, 1, 5, 0, 10) for n in (9, 5, 7)]
        self.assertEqual(last(*calls, CLASH), [0, 5, 7])

    def test_needless_ones_are_left_out(self):
        calls = [begin(1, 0), stick(7, 1, 0, 10), stick(8, 2, 0, 10), promise(21, 1, 5, 0, 10),
                 promise(22, 2, 5, 0, 10), promise(23, 1, 5, 0, 10), promise(24, 2, 4, 0, 10)]
        self.assertEqual(last(*calls, CLASH), [0, 21, 23])

    def test_one_that_can_never_be_kept(self):
        calls = [begin(1, 0), stick(7, 1, 0, 10), promise(21, 1, 11, 0, 20), promise(22, 1, 5, 0, 10),
                 promise(23, 1, 5, 0, 10)]
        self.assertEqual(last(*calls, CLASH), [0, 22, 23])
        self.assertEqual(last(*calls, withdraw(23), CLASH), [0, 21])

    def test_three_that_fit_two_by_two(self):
        calls = [begin(1, 0), stick(7, 1, 0, 10)] + [promise(n, 1, 3, 0, 10) for n in (1, 2, 3)]
        self.assertEqual(last(*calls, CLASH), [0, 1, 2, 3])
        self.assertEqual(run(*calls, least(1, 2), least(1, 3), least(2, 3))[-3:], [[0, 1, 2]] * 3)


class MostTest(unittest.TestCase):
    def test_all_of_them(self):
        self.assertEqual(last(*EXAMPLE, MOST), [0, 11, 1, 21, 7, 0, 22, 7, 5])

    def test_nothing_there(self):
        self.assertEqual(last(begin(1, 3), MOST), [0, 0, 0])
        self.assertEqual(last(begin(1, 3), stick(7, 1, 0, 10), MOST), [0, 0, 0])

    def test_none_can_be_kept(self):
        self.assertEqual(last(begin(1, 3), promise(21, 1, 5, 0, 10, 4), MOST), [0, 0, 0])
        self.assertEqual(last(begin(1, 3), stick(7, 2, 0, 10), promise(21, 1, 5, 0, 10, 4), MOST), [0, 0, 0])

    def test_most_worth(self):
        calls = [begin(1, 0), stick(7, 1, 0, 10), promise(21, 1, 5, 0, 10, 4)]
        self.assertEqual(last(*calls, promise(22, 1, 5, 0, 10, 5), MOST), [0, 5, 1, 22, 7, 0])
        self.assertEqual(last(*calls, promise(22, 1, 5, 0, 10, 3), MOST), [0, 4, 1, 21, 7, 0])

    def test_worth_goes_ahead_of_how_many(self):
        calls = [begin(1, 0), stick(7, 1, 0, 9), promise(21, 1, 4, 0, 9, 2), promise(22, 1, 4, 0, 9, 2)]
        self.assertEqual(last(*calls, promise(23, 1, 9, 0, 9, 5), MOST), [0, 5, 0, 23, 7, 0])
        self.assertEqual(last(*calls, promise(23, 1, 9, 0, 9, 3), MOST), [0, 4, 1, 21, 7, 0, 22, 7, 5])

    def test_of_alike_worth_the_least_lost(self):
        calls = [begin(1, 0), stick(7, 1, 0, 10), promise(21, 1, 9, 0, 10, 4)]
        self.assertEqual(last(*calls, promise(22, 1, 10, 0, 10, 4), MOST), [0, 4, 0, 22, 7, 0])
        # Two for the worth of one, with a cut more.
        self.assertEqual(last(begin(1, 0), stick(7, 1, 0, 9), promise(21, 1, 4, 0, 9, 2), promise(22, 1, 4, 0, 9, 2),
                              promise(23, 1, 9, 0, 9, 4), MOST), [0, 4, 0, 23, 7, 0])

    def test_of_alike_worth_and_lost_the_least_number(self):
        self.assertEqual(last(*RIVALS, MOST), [0, 4, 1, 21, 7, 0])

    def test_no_worth(self):
        calls = [begin(1, 0), stick(7, 1, 0, 10)]
        self.assertEqual(last(*calls, promise(21, 1, 5, 0, 10, 0), MOST), [0, 0, 0])
        # Nothing is lost either way: the empty set has the least number.
        self.assertEqual(last(*calls, promise(21, 1, 10, 0, 10, 0), MOST), [0, 0, 0])

    def test_one_of_no_worth_that_saves_ice(self):
        calls = [begin(1, 3), stick(7, 1, 0, 10), promise(21, 1, 7, 0, 10, 5), promise(22, 1, 2, 0, 10, 0)]
        self.assertEqual(last(*calls, MOST), [0, 5, 1, 21, 7, 0, 22, 7, 8])

    def test_by_the_best_plan_in_the_order_told(self):
        calls = [begin(1, 0), stick(8, 2, 0, 10), stick(7, 1, 0, 10), promise(23, 1, 3, 7, 10, 1),
                 promise(21, 2, 10, 0, 10, 1), promise(24, 4, 1, 0, 10, 9), promise(22, 1, 6, 0, 6, 1)]
        self.assertEqual(last(*calls, MOST), [0, 3, 1, 23, 7, 7, 21, 8, 0, 22, 7, 0])

    def test_greatest_worths(self):
        calls = [begin(1, 0), stick(7, 1, 0, 20)] + [promise(n, 1, 3, 0, 20, 1000) for n in (1, 2, 3, 4, 5)]
        self.assertEqual(last(*calls, MOST)[:3], [0, 5000, 5])


class CanTest(unittest.TestCase):
    def test_places(self):
        self.assertEqual(run(*EXAMPLE, can(21, 7), can(22, 7))[-2:], [[0, 0, 1, 2, 3, 4, 5, 6], [0, 0, 1, 2, 3, 4, 5]])

    def test_saw_and_gaps_count_for_nothing(self):
        self.assertEqual(last(begin(5, 20), stick(7, 1, 0, 6), promise(21, 1, 4, 0, 10), can(21, 7)), [0, 0, 1, 2])
        self.assertEqual(last(begin(5, 20), stick(7, 1, 0, 6), keep(7, 0, 1), promise(21, 1, 4, 0, 10), can(21, 7)),
                         [0, 1, 2])

    def test_lanes_stretch_and_stick(self):
        calls = [begin(1, 0), stick(7, 2, 10, 10)]
        self.assertEqual(last(*calls, promise(21, 13, 4, 0, 1000), can(21, 7)), [0])
        self.assertEqual(last(*calls, promise(21, 2, 4, 0, 1000), can(21, 7)), [0, 10, 11, 12, 13, 14, 15, 16])
        self.assertEqual(last(*calls, promise(21, 2, 4, 12, 18), can(21, 7)), [0, 12, 13, 14])
        self.assertEqual(last(*calls, promise(21, 2, 4, 12, 16), can(21, 7)), [0, 12])
        self.assertEqual(last(*calls, promise(21, 2, 4, 12, 15), can(21, 7)), [0])
        self.assertEqual(last(*calls, promise(21, 2, 10, 0, 1000), can(21, 7)), [0, 10])
        self.assertEqual(last(*calls, promise(21, 2, 11, 0, 1000), can(21, 7)), [0])
        self.assertEqual(last(*calls, promise(21, 2, 4, 20, 30), can(21, 7)), [0])

    def test_kept_and_spoilt(self):
        for mark in (keep, spoil):
            self.assertEqual(last(begin(1, 0), stick(7, 1, 0, 10), mark(7, 4, 5), promise(21, 1, 3, 0, 10), can(21, 7)),
                             [0, 0, 1, 5, 6, 7])

    def test_twenty_places(self):
        self.assertEqual(last(begin(1, 0), stick(7, 1, 980, 20), promise(21, 1, 1, 0, 1000), can(21, 7)),
                         [0] + list(range(980, 1000)))

    def test_refusals(self):
        self.assertEqual(last(*EXAMPLE, can(23, 7)), [-4])
        self.assertEqual(last(*EXAMPLE, can(21, 8)), [-3])
        self.assertEqual(last(*EXAMPLE, can(7, 21)), [-4])
        self.assertEqual(last(*EXAMPLE, withdraw(21), can(21, 7)), [-4])
        self.assertEqual(last(*EXAMPLE, take(21, 7, 0), can(21, 7)), [-4])


class WhereTest(unittest.TestCase):
    def test_example(self):
        self.assertEqual(run(*EXAMPLE, where(21), where(22))[-2:], [[0, 1, 1], [0, 1, 1]])

    def test_each_stick(self):
        # From 9 with a cut, from 8 by none, from 7 not at all.
        calls = [begin(1, 0), stick(9, 1, 0, 12), stick(7, 2, 0, 12), stick(8, 1, 0, 10), promise(21, 1, 10, 0, 20)]
        self.assertEqual(last(*calls, where(21)), [0, 1, 1, 0, 0, 1, 0])

    def test_all_promises_are_kept(self):
        # 21 fills 8, and 22 comes from 9 by a cut; any other way there's a cut more.
        calls = [begin(1, 0), stick(9, 1, 0, 16), stick(8, 1, 0, 10), promise(21, 1, 10, 0, 20),
                 promise(22, 1, 4, 0, 20)]
        self.assertEqual(run(*calls, BEST, where(21), where(22))[-3:],
                         [[0, 1, 1, 8, 0, 9, 0], [0, 1, 2, 1, 1], [0, 1, 1, 1, 2]])
        # With 23 each stick holds a piece of 10 steps: 22 comes from 9 alone.
        self.assertEqual(last(*calls, promise(23, 1, 10, 0, 10), where(22)), [0, 1, 2, 0, 0])

    def test_not_all_can_be_kept(self):
        self.assertEqual(run(*RIVALS, where(21), where(22))[-2:], [[0, 0, 0], [0, 0, 0]])
        self.assertEqual(last(*RIVALS, stick(8, 2, 0, 10), where(21)), [0, 0, 0, 0, 0])

    def test_no_stick(self):
        self.assertEqual(last(begin(1, 3), promise(21, 1, 4, 0, 10), where(21)), [0])

    def test_refusals(self):
        self.assertEqual(last(*EXAMPLE, where(23)), [-4])
        self.assertEqual(last(*EXAMPLE, where(7)), [-4])
        self.assertEqual(last(*EXAMPLE, withdraw(21), where(21)), [-4])


class SparesTest(unittest.TestCase):
    def test_example(self):
        self.assertEqual(run(*EXAMPLE, spares(21), spares(22))[-2:], [[0, 1, 0], [0, 1, 0]])

    def test_above_0(self):
        self.assertEqual(last(begin(2, 0), stick(7, 1, 0, 20), promise(21, 1, 4, 0, 20), spares(21)), [0, 1, 2])

    def test_below_0(self):
        calls = [begin(1, 3), stick(7, 1, 0, 10), promise(21, 1, 7, 0, 10), promise(22, 1, 2, 0, 10)]
        self.assertEqual(run(*calls, spares(21), spares(22))[-2:], [[0, 1, 0], [0, 1, -2]])

    def test_not_all_can_be_kept(self):
        self.assertEqual(run(*RIVALS, spares(21), spares(22))[-2:], [[0, 0], [0, 0]])
        self.assertEqual(last(begin(1, 3), promise(21, 1, 4, 0, 10), spares(21)), [0, 0])

    def test_refusals(self):
        self.assertEqual(last(*EXAMPLE, spares(23)), [-4])
        self.assertEqual(last(*RIVALS, spares(23)), [-4])
        self.assertEqual(last(*EXAMPLE, spares(7)), [-4])
        self.assertEqual(last(*EXAMPLE, withdraw(21), spares(21)), [-4])


class TableTest(unittest.TestCase):
    # Stick 9 holds 21 by a cut, stick 8 holds 22 by none and 21 by two.
    CALLS = [begin(1, 0), stick(9, 1, 0, 12), stick(8, 1, 20, 10), promise(21, 1, 8, 0, 29), promise(22, 1, 10, 10, 40)]

    def test_each_n(self):
        told = run(*self.CALLS, *[table(n) for n in (0, 1, 2, 3, 4, 5)])[-6:]
        self.assertEqual(told[0], [0, 1, 0, 1, 1, 1, 0, 1, 1])
        self.assertEqual(told[1], [0, 1, 0, 1, 1, 1, 0, 0, 0])
        self.assertEqual(told[2:], [[0, 1, 0, 0, 0, 0, 0, 0, 0]] * 4)

    def test_no_promise_and_no_stick(self):
        for n in (0, 1, 5):
            self.assertEqual(last(begin(1, 3), table(n)), [0, 1, 0])
            self.assertEqual(last(begin(1, 3), stick(7, 1, 0, 10), table(n)), [0, 1, 0])
            self.assertEqual(last(begin(1, 3), promise(21, 1, 4, 0, 10), table(n)), [0, 1, 0, 0, 0])

    def test_all_sets_of_five(self):
        calls = [begin(1, 0)] + [stick(n, 1, 0, 20) for n in (1, 2, 3, 4, 5)]
        calls += [promise(n, 1, 3, 0, 20) for n in (1, 2, 3, 4, 5)]
        told = run(*calls, table(4), table(5))[-2:]
        self.assertEqual(told[0], [0] + [number for chosen in range(32) for number in (1, bin(chosen).count("1"))])
        self.assertEqual(told[1], [0, 1, 0] + [0, 0] * 31)

    def test_first_entry_of_all_is_what_best_tells(self):
        told = run(*self.CALLS, BEST, table(0))[-2:]
        self.assertEqual(told[1][-2:], told[0][1:3])


class BehindTest(unittest.TestCase):
    CALLS = [begin(1, 3), stick(7, 1, 10, 10), promise(21, 1, 4, 0, 30), promise(22, 1, 3, 0, 30)]

    def test_empty_set(self):
        told = run(*self.CALLS, *[behind(7, place, 0) for place in (10, 15, 16, 17, 18, 19, 20)])[-7:]
        # The cut, and the rest behind it where it's below 3.
        self.assertEqual(told, [[0, 1, 1], [0, 1, 1], [0, 1, 1], [0, 1, 3], [0, 1, 2], [0, 1, 1], [0, 1, 0]])

    def test_sets(self):
        self.assertEqual(last(*self.CALLS, behind(7, 15, 1)), [0, 1, 1])
        self.assertEqual(last(*self.CALLS, behind(7, 16, 1)), [0, 0])
        self.assertEqual(last(*self.CALLS, behind(7, 16, 2)), [0, 1, 1])
        self.assertEqual(last(*self.CALLS, behind(7, 15, 2)), [0, 1, 2])
        self.assertEqual(last(*self.CALLS, behind(7, 11, 3)), [0, 1, 2])
        self.assertEqual(last(*self.CALLS, behind(7, 12, 3)), [0, 0])

    def test_at_the_stick_s_two_ends(self):
        # Behind a taking there's a cut ahead of the next one, at the stick's beginning, too.
        self.assertEqual(last(*self.CALLS, behind(7, 10, 1)), [0, 1, 2])
        self.assertEqual(last(begin(1, 0), stick(7, 1, 0, 4), piece(21, 0, 4), behind(7, 0, 1)), [0, 0])
        self.assertEqual(last(begin(1, 0), stick(7, 1, 0, 4), piece(21, 1, 4), behind(7, 0, 1)), [0, 1, 1])
        for chosen in (1, 2, 3):
            self.assertEqual(last(*self.CALLS, behind(7, 20, chosen)), [0, 0])

    def test_too_narrow_for_the_saw(self):
        calls = [begin(5, 0), stick(7, 1, 0, 20)]
        self.assertEqual([last(*calls, behind(7, place, 0)) for place in (14, 15, 16, 19, 20)],
                         [[0, 1, 5], [0, 1, 5], [0, 0], [0, 0], [0, 1, 0]])

    def test_kept_steps(self):
        calls = self.CALLS + [keep(7, 14, 15)]
        self.assertEqual(last(*calls, behind(7, 14, 0)), [0, 0])
        self.assertEqual(last(*calls, behind(7, 13, 0)), [0, 1, 1])
        # What's kept ahead of the place counts for nothing.
        self.assertEqual(last(*calls, behind(7, 15, 1)), [0, 1, 1])

    def test_other_sticks_count_for_nothing(self):
        told = run(*self.CALLS, behind(7, 15, 1), stick(8, 1, 10, 4), behind(7, 15, 1), behind(7, 16, 1))
        self.assertEqual([told[4], told[6], told[7]], [[0, 1, 1], [0, 1, 1], [0, 0]])

    def test_number_that_is_none_of_a_set(self):
        self.assertEqual(run(*self.CALLS, behind(7, 15, 4), behind(7, 15, 31))[-2:], [[-4], [-4]])
        self.assertEqual(run(begin(1, 0), stick(7, 1, 0, 4), behind(7, 4, 0), behind(7, 4, 1))[-2:],
                         [[0, 1, 0], [-4]])
        five = [begin(1, 0), stick(7, 1, 0, 20)] + [promise(n, 1, 3, 0, 20) for n in (1, 2, 3, 4, 5)]
        self.assertEqual(run(*five, behind(7, 0, 31), behind(7, 4, 30), withdraw(3), behind(7, 4, 16),
                             behind(7, 4, 15))[-5:], [[0, 1, 5], [0, 1, 4], [0], [-4], [0, 1, 4]])

    def test_refusals_and_their_order(self):
        self.assertEqual(last(*self.CALLS, behind(8, 15, 1)), [-3])
        self.assertEqual(last(*self.CALLS, behind(21, 15, 1)), [-3])
        for place in (0, 9, 21, 1000):
            self.assertEqual(last(*self.CALLS, behind(7, place, 1)), [-9])
        self.assertEqual(last(*self.CALLS, behind(8, 9, 31)), [-3])
        self.assertEqual(last(*self.CALLS, behind(7, 9, 31)), [-9])
        self.assertEqual(last(*self.CALLS, behind(7, 15, 31)), [-4])

    def test_after_a_crack(self):
        calls = self.CALLS + [crack(7, 15, 8)]
        self.assertEqual(run(*calls, behind(7, 15, 0), behind(7, 16, 0), behind(8, 14, 0), behind(8, 15, 0))[-4:],
                         [[0, 1, 0], [-9], [-9], [0, 1, 1]])


class AskingTest(unittest.TestCase):
    def test_changes_nothing(self):
        asked = [CLASH, MOST, can(21, 7), where(21), spares(21), table(0), behind(7, 0, 1)]
        told = run(*EXAMPLE, STICKS, *asked[:5], STICKS, *asked[5:], STICKS, can(21, 7))
        self.assertEqual([told[4], told[10], told[13]], [[0, 7, 1, 0, 10, 0, 0]] * 3)
        self.assertEqual(told[14], told[7])


if __name__ == "__main__":
    unittest.main()
