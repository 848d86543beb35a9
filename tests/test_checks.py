"""check and rests: what's wrong with takings told, what is lost, which rests are left."""

import unittest

from helper import begin, check, keep, piece, promise, rests, run, spoil, stick, taking, take, withdraw


def told(bench, *takings):
    """What check and rests answer to these takings (promise, stick, place)."""
    text = "".join([taking(*one) for one in takings])
    return run(*bench, check(text), rests(text))[-2:]


class CheckTest(unittest.TestCase):
    def assert_wrong(self, kind, which, bench, *takings):
        with self.subTest(takings=takings):
            self.assertEqual(told(bench, *takings), [[0, 2, kind, which]] * 2)

    def assert_right(self, lost, left, bench, *takings):
        with self.subTest(takings=takings):
            self.assertEqual(told(bench, *takings), [[0, 1, len(takings), lost], [0, 1] + left])


# Promises 1 to 5 of 1 to 5 steps, two sticks that lie alike, a saw 2 steps wide.
BENCH = [begin(2, 3), stick(8, 1, 0, 20), stick(7, 1, 0, 20)] + [promise(n, 1, n, 0, 20) for n in (1, 2, 3, 4, 5)]


class TakingTest(CheckTest):
    def test_no_such_promise(self):
        self.assert_wrong(1, 1, BENCH, (6, 7, 0))
        self.assert_wrong(1, 2, BENCH, (1, 7, 0), (8, 7, 5))
        self.assert_wrong(1, 1, BENCH + [withdraw(2)], (2, 7, 0))
        self.assert_wrong(1, 1, BENCH + [take(2, 7, 0)], (2, 7, 4))

    def test_no_such_stick(self):
        self.assert_wrong(2, 1, BENCH, (1, 6, 0))
        self.assert_wrong(2, 2, BENCH, (1, 7, 0), (2, 1, 5))
        gone = [begin(1, 0), stick(7, 1, 0, 4), piece(1, 0, 4), piece(2, 0, 4), take(1, 7, 0)]
        self.assert_wrong(2, 1, gone, (2, 7, 0))

    def test_taken_by_one_told_before(self):
        self.assert_wrong(3, 2, BENCH, (1, 7, 0), (1, 7, 5))
        self.assert_wrong(3, 2, BENCH, (1, 7, 0), (1, 8, 0))
        self.assert_wrong(3, 2, BENCH, (1, 7, 0), (1, 7, 0))
        self.assert_wrong(3, 4, BENCH, (1, 7, 0), (2, 7, 5), (3, 8, 0), (2, 8, 9), (1, 8, 16))

    def test_can_not_be_taken_there(self):
        self.assert_wrong(4, 1, BENCH, (5, 7, 16))
        self.assert_wrong(4, 2, BENCH, (4, 7, 16), (5, 8, 20))
        self.assert_wrong(4, 1, BENCH, (1, 7, 1000000000))
        for mark in (keep, spoil):
            self.assert_wrong(4, 1, BENCH + [mark(7, 4, 5)], (5, 7, 0))
        self.assert_wrong(4, 1, [begin(1, 0), stick(7, 2, 0, 9), promise(1, 13, 4, 0, 9)], (1, 7, 0))
        stretch = [begin(1, 0), stick(7, 1, 0, 9), promise(1, 1, 4, 2, 7)]
        self.assert_wrong(4, 1, stretch, (1, 7, 1))
        self.assert_wrong(4, 1, stretch, (1, 7, 4))
        self.assert_right(2, [7, 0, 1, 7, 7, 9], stretch, (1, 7, 2))

    def test_lesser_kind_goes_ahead_of_an_earlier_taking(self):
        self.assert_wrong(1, 2, BENCH, (1, 6, 0), (9, 7, 0))
        self.assert_wrong(1, 3, BENCH, (1, 7, 0), (1, 7, 0), (9, 7, 0))
        self.assert_wrong(1, 2, BENCH, (1, 7, 20), (9, 7, 0))
        self.assert_wrong(2, 3, BENCH, (1, 7, 0), (1, 7, 0), (2, 6, 0))
        self.assert_wrong(2, 2, BENCH, (1, 7, 20), (2, 6, 0))
        self.assert_wrong(3, 3, BENCH, (1, 7, 20), (2, 7, 0), (2, 7, 0))
        self.assert_wrong(4, 3, BENCH, (1, 7, 1), (2, 7, 1), (3, 7, 18))

    def test_first_taking_of_a_kind(self):
        self.assert_wrong(1, 2, BENCH, (1, 7, 0), (9, 7, 0), (8, 7, 0))
        self.assert_wrong(2, 2, BENCH, (1, 7, 0), (2, 5, 0), (3, 6, 0))
        self.assert_wrong(4, 2, BENCH, (1, 7, 0), (2, 7, 19), (3, 7, 19))

    def test_one_taking_with_two_kinds(self):
        self.assert_wrong(1, 1, BENCH, (9, 9, 0))
        self.assert_wrong(1, 1, BENCH, (9, 7, 0), (9, 7, 0))
        self.assert_wrong(2, 2, BENCH, (1, 7, 0), (1, 9, 0))
        self.assert_wrong(3, 2, BENCH, (1, 7, 0), (1, 7, 20))

    def test_a_promise_counts_as_taken_though_its_taking_is_wrong(self):
        self.assert_wrong(3, 2, BENCH, (1, 7, 20), (1, 7, 0))

    def test_ids_of_the_other_kind(self):
        bench = [begin(1, 0), stick(7, 1, 0, 4), promise(21, 1, 4, 0, 4)]
        self.assert_wrong(1, 1, bench, (7, 7, 0))
        self.assert_wrong(2, 1, bench, (21, 21, 0))


class GapTest(CheckTest):
    def test_opening_gap(self):
        for gap, lost, left in ((0, 2, []), (2, 4, []), (3, 5, [8, 0, 1]), (5, 4, [8, 0, 3])):
            self.assert_right(lost, left + [8, gap + 6, 20, 7, 0, 20], BENCH, (4, 8, gap))
        self.assert_wrong(5, 1, BENCH, (4, 8, 1))

    def test_closing_gap(self):
        for gap, lost, left in ((0, 2, []), (2, 4, []), (3, 5, [8, 19, 20]), (5, 4, [8, 17, 20])):
            self.assert_right(lost, [8, 0, 14 - gap] + left + [7, 0, 20], BENCH, (4, 8, 16 - gap))
        self.assert_wrong(5, 1, BENCH, (4, 8, 15))

    def test_gap_between(self):
        for gap, lost, left in ((2, 4, []), (4, 6, []), (5, 7, [8, 6, 7]), (7, 6, [8, 6, 9])):
            end = 4 + gap + 3
            for takings in (((4, 8, 0), (3, 8, end - 3)), ((3, 8, end - 3), (4, 8, 0))):
                self.assert_right(lost, left + [8, end + 2, 20, 7, 0, 20], BENCH, *takings)
        for gap in (0, 1, 3):
            self.assert_wrong(5, 2, BENCH, (4, 8, 0), (3, 8, 4 + gap))
            self.assert_wrong(5, 1, BENCH, (3, 8, 4 + gap), (4, 8, 0))

    def test_widths_of_the_saw(self):
        for w in (1, 2, 3, 4, 5):
            bench = [begin(w, 0), stick(7, 1, 0, 20), promise(1, 1, 1, 0, 1), promise(2, 1, 1, 0, 20)]
            for gap in range(12):
                if gap == w or gap >= 2 * w:
                    self.assertEqual(told(bench, (2, 7, 1 + gap), (1, 7, 0))[0], [0, 1, 2, min(gap, 2 * w) + w])
                else:
                    self.assert_wrong(5, 1, bench, (2, 7, 1 + gap), (1, 7, 0))

    def test_step_in_common(self):
        self.assert_wrong(5, 2, BENCH, (5, 8, 0), (1, 8, 4))
        self.assert_wrong(5, 2, BENCH, (1, 8, 4), (5, 8, 4))
        self.assert_wrong(5, 2, BENCH, (5, 8, 3), (1, 8, 4))
        self.assert_wrong(5, 1, BENCH, (1, 8, 4), (5, 8, 3))

    def test_alike_places_as_told(self):
        self.assert_wrong(5, 2, BENCH, (1, 8, 0), (2, 8, 0))
        self.assert_wrong(5, 2, BENCH, (2, 8, 0), (1, 8, 0))
        self.assert_wrong(5, 3, BENCH, (3, 8, 12), (4, 8, 5), (1, 8, 5))
        self.assert_wrong(5, 2, BENCH, (1, 8, 5), (4, 8, 5), (3, 8, 12))

    def test_alike_places_on_two_sticks(self):
        self.assert_right(4, [8, 3, 20, 7, 4, 20], BENCH, (1, 8, 0), (2, 7, 0))

    def test_step_in_common_beyond_the_next_taking(self):
        # 5 covers both others: told is the first of them behind its beginning.
        bench = [begin(1, 0), stick(7, 1, 0, 20), promise(1, 1, 1, 0, 20), promise(2, 1, 2, 0, 20),
                 promise(9, 1, 9, 0, 20)]
        self.assert_wrong(5, 3, bench, (9, 7, 0), (2, 7, 6), (1, 7, 3))

    def test_first_gap_of_a_stick(self):
        # The opening gap and the closing one are both wrong.
        self.assert_wrong(5, 2, BENCH, (5, 8, 14), (4, 8, 1))
        self.assert_wrong(5, 1, BENCH, (5, 8, 14), (4, 8, 0))
        self.assert_wrong(5, 1, BENCH, (5, 8, 1), (4, 8, 15))

    def test_sticks_in_the_order_told_not_as_told_in_the_text_nor_by_ids(self):
        self.assert_wrong(5, 2, BENCH, (4, 7, 1), (5, 8, 1))
        self.assert_wrong(5, 1, BENCH, (4, 8, 1), (5, 7, 1))

    def test_goes_behind_all_the_kinds_of_takings(self):
        self.assert_wrong(4, 2, BENCH, (4, 8, 1), (5, 7, 18))
        self.assert_wrong(3, 2, BENCH, (4, 8, 1), (4, 7, 0))

    def test_last_gap_tells_the_last_taking(self):
        self.assert_wrong(5, 2, BENCH, (4, 8, 0), (3, 8, 16))
        self.assert_wrong(5, 1, BENCH, (3, 8, 16), (4, 8, 0))


class KeptTest(CheckTest):
    # Stick 8 from 0 to 20, takings at 5 to 9 and 14 to 17: sawn are 3, 4; 9, 10; 12, 13; 17, 18.
    TAKINGS = ((3, 8, 14), (4, 8, 5))

    def test_each_kept_step(self):
        for step in range(20):
            bench = BENCH + [keep(8, step, step + 1)]
            if step in (3, 4):
                expected = [0, 2, 6, 2]
            elif step in (9, 10, 12, 13, 17, 18):
                expected = [0, 2, 6, 1]
            elif 5 <= step < 9:
                expected = [0, 2, 4, 2]
            elif 14 <= step < 17:
                expected = [0, 2, 4, 1]
            else:
                # Lost are the saw's 8 and the short rests 11 and 19, less the one that's kept.
                expected = [0, 1, 2, 10 if step < 5 else 9]
            with self.subTest(step=step):
                self.assertEqual(told(bench, *self.TAKINGS)[0], expected)

    def test_cut_between_of_w(self):
        for step in (4, 5):
            self.assert_wrong(6, 1, BENCH + [keep(8, step, step + 1)], (3, 8, 6), (4, 8, 0))

    def test_spoilt_steps_may_be_sawn(self):
        self.assert_right(10, [8, 0, 3, 8, 11, 12, 8, 19, 20, 7, 0, 20],
                          BENCH + [spoil(8, 3, 5), spoil(8, 9, 14), spoil(8, 17, 20)], *self.TAKINGS)

    def test_goes_behind_the_gaps_of_all_sticks(self):
        bench = BENCH + [keep(8, 0, 4)]
        self.assert_wrong(6, 1, bench, (4, 8, 5), (3, 7, 0))
        self.assert_wrong(5, 2, bench, (4, 8, 5), (3, 7, 1))

    def test_first_gap_in_which_it_is_so(self):
        bench = BENCH + [keep(8, 4, 5), keep(8, 9, 10), keep(7, 4, 5)]
        self.assert_wrong(6, 3, bench, (2, 7, 5), (3, 8, 14), (4, 8, 5))
        self.assert_wrong(6, 1, bench, (2, 7, 5), (3, 8, 14))

    def test_sticks_that_lie_alike(self):
        self.assert_right(4, [8, 0, 3, 8, 11, 20, 7, 0, 20], BENCH + [keep(7, 0, 20)], (4, 8, 5))

    def test_row_without_takings_saws_nothing(self):
        self.assert_right(0, [8, 0, 20, 7, 0, 20], BENCH + [keep(8, 0, 20), keep(7, 3, 9)])


class LostTest(CheckTest):
    def test_example_of_the_document(self):
        bench = [begin(1, 3), stick(7, 1, 0, 10), promise(21, 1, 4, 0, 10, 5), promise(22, 1, 5, 0, 10, 6)]
        self.assert_right(2, [7, 6, 10], bench, (21, 7, 1))
        self.assert_right(1, [], bench, (21, 7, 0), (22, 7, 5))

    def test_nothing_there(self):
        self.assert_right(0, [], [begin(1, 3)])
        self.assert_right(0, [], [begin(1, 3), promise(1, 1, 1, 0, 5)])
        self.assert_wrong(1, 1, [begin(1, 3)], (1, 1, 0))

    def test_stick_without_a_taking_is_a_rest_and_loses_nothing(self):
        bench = [begin(5, 20), stick(9, 3, 990, 1), stick(3, 1, 0, 4), stick(5, 2, 7, 20), piece(1, 0, 4)]
        self.assert_right(0, [9, 990, 991, 3, 0, 4, 5, 7, 27], bench)
        self.assert_right(0, [9, 990, 991, 5, 7, 27], bench, (1, 3, 0))

    def test_short_and_spoilt_rests_are_told(self):
        self.assert_right(5, [8, 0, 1, 8, 9, 20, 7, 0, 20], BENCH + [spoil(8, 0, 3)], (4, 8, 3))
        self.assert_right(8, [8, 0, 2, 8, 18, 20, 7, 0, 20], BENCH + [withdraw(1), promise(6, 1, 12, 0, 20)], (6, 8, 4))

    def test_two_sticks_out_of_order(self):
        bench = [begin(1, 2), stick(8, 1, 0, 10), stick(7, 1, 0, 9)] + [promise(n, 1, n, 0, 20) for n in (1, 2, 3, 4)]
        # 8: 3 at 0, 4 at 6, gap 3 to 6 with a rest of 1; 7: 2 at 3, 1 at 8, gaps 0 to 3 and 5 to 8.
        self.assert_right(3 + 1 + 3, [8, 4, 5, 7, 0, 2, 7, 6, 7], bench, (4, 8, 6), (1, 7, 8), (3, 8, 0), (2, 7, 3))

    def test_some_promises_alone(self):
        self.assert_right(2, [8, 3, 20, 7, 0, 20], BENCH, (1, 8, 0))
        self.assertEqual(told(BENCH)[0], [0, 1, 0, 0])

    def test_a_worse_plan_than_the_best_is_let(self):
        self.assertEqual(told(BENCH, (1, 8, 5), (2, 7, 5))[0], [0, 1, 2, 8])

    def test_bench_stays_as_it_is(self):
        text = taking(4, 8, 5)
        answers = run(*BENCH, check(text), rests(text), check(text), rests(text))[-4:]
        self.assertEqual(answers[:2], answers[2:])

    def test_after_a_taking(self):
        bench = BENCH + [take(4, 8, 5, 30)]
        self.assert_right(0, [8, 0, 3, 30, 11, 20, 7, 0, 20], bench)
        self.assert_right(0, [30, 11, 20, 7, 0, 20], bench, (3, 8, 0))
        self.assert_wrong(4, 1, bench, (5, 8, 0))


if __name__ == "__main__":
    unittest.main()
