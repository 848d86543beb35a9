"""icecuts.bench.answers: how calls stand in one list, and how answers are given back."""

import unittest

from helper import (BEST, CLASH, MOST, PLAN, PROMISES, STICKS, begin, behind, can, check, crack, keep, least, piece,
                    promise, rests, run, spares, spoil, stick, table, take, where, withdraw)
from icecuts.bench import answers

SETUP = [begin(1, 3), stick(7, 1, 0, 10), stick(8, 2, 5, 20), keep(7, 9, 10), spoil(8, 10, 12),
         promise(21, 1, 4, 0, 10, 5), promise(22, 3, 5, 0, 30, 6)]
TEXT = "take 21 from 7 at 0; take 22 from 8 at 12;"
TOLD = [STICKS, PROMISES, BEST, PLAN, least(21), CLASH, MOST, where(22), spares(22), table(1), behind(8, 12, 2),
        check(TEXT), rests(TEXT), check("take"), rests("take 1 from 1 at 1;"), can(21, 7)]
CHANGES = [crack(8, 20, 9), take(21, 7, 2, 10), STICKS, PROMISES]


def flat(calls):
    return [number for call in calls for number in call]


class AnswersTest(unittest.TestCase):
    def test_each_answer_behind_its_count(self):
        self.assertEqual(answers([6, 0, 1, 3, 6, 1, 7, 1, 0, 10, 6, 10, 0, 10, 2, 5, 5, 8]),
                         [1, -2, 1, 0, 1, 0, 1, 0, 7, 0, 7, 1, 0, 10, 0, 0, 3, 0, 1, 0, 1, -4, 3, 0, 1, 0])

    def test_example_of_the_document(self):
        told = answers([0, 1, 3, 1, 7, 1, 0, 10, 4, 21, 1, 4, 0, 10, 5, 4, 22, 1, 5, 0, 10, 6, 8, 9, 13, 20,
                        116, 97, 107, 101, 32, 50, 49, 32, 102, 114, 111, 109, 32, 55, 32, 97, 116, 32, 49, 59, 17, 22])
        self.assertEqual(told, [1, 0, 1, 0, 1, 0, 1, 0, 7, 0, 1, 1, 7, 0, 7, 5, 44, 0, 1,
                                116, 97, 107, 101, 32, 50, 49, 32, 102, 114, 111, 109, 32, 55, 32, 97, 116, 32, 48, 59,
                                10, 116, 97, 107, 101, 32, 50, 50, 32, 102, 114, 111, 109, 32, 55, 32, 97, 116, 32, 53,
                                59, 10, 4, 0, 1, 1, 2, 3, 0, 1, 0])

    def test_each_call_by_its_numbers(self):
        # Each call as the interface tells it, number by number, without the names of the helper.
        calls = [0, 1, 3, 1, 7, 1, 0, 10, 4, 21, 1, 4, 0, 10, 5, 4, 22, 1, 5, 0, 10, 6]
        for call, told in (([11], [0]), ([12], [0, 11, 1, 21, 7, 0, 22, 7, 5]), ([13, 0], [0, 1, 0, 0]),
                           ([13, 2, 59, 35], [0, 0, 1, 1]), ([14, 22, 7], [0, 0, 1, 2, 3, 4, 5]),
                           ([15, 0], [0, 1, 7, 0, 10]), ([15, 1, 59], [0, 0, 2, 0]), ([16, 21], [0, 1, 1]),
                           ([17, 21], [0, 1, 0]), ([18, 21, 7, 1, 8], [0, 2, 1]), ([18, 21, 7, 2, 8], [0, 2, 2]),
                           ([19, 7, 5, 8], [0]), ([20, 0], [0, 1, 0, 1, 1, 1, 1, 1, 1]), ([21, 7, 4, 2], [0, 1, 1])):
            with self.subTest(call=call):
                expected = answers(calls) + [len(told)] + told
                self.assertEqual(answers(calls + call), expected)
                self.assertEqual(answers(calls + call + [0, 1, 3]), expected + [1, -5])

    def test_list_out_of_range_is_passed_over_whole(self):
        # The numbers of a refused list look like calls and are none.
        self.assertEqual(answers([0, 1, 3, 10, 3, 6, 0, 6, 6]), [1, 0, 1, -1, 1, 0])
        for number in (13, 15):
            self.assertEqual(answers([0, 1, 3, number, 3, 6, 256, 6, 6]), [1, 0, 1, -1, 1, 0])

    def test_only_whole_numbers_in_one_list(self):
        told = answers(flat(SETUP + TOLD + CHANGES))
        self.assertIs(type(told), list)
        self.assertEqual({type(number) for number in told}, {int})

    def test_what_is_handed_in_is_not_changed(self):
        calls = flat(SETUP + TOLD + CHANGES)
        kept = list(calls)
        answers(calls)
        self.assertEqual(calls, kept)

    def test_nothing_is_kept_from_one_time_to_the_next(self):
        calls = flat(SETUP + TOLD + CHANGES)
        told = answers(calls)
        self.assertEqual(answers([6]), [1, -2])
        self.assertEqual(answers(calls), told)

    def test_answer_is_a_list_of_its_own(self):
        calls = flat(SETUP + TOLD + CHANGES)
        told = answers(calls)
        kept = list(told)
        told.clear()
        self.assertEqual(answers(calls), kept)

    def test_120_calls_with_the_longest_lists(self):
        calls = [begin(1, 0)] + [stick(n, 1, 10, 20) for n in (1, 2, 3, 4, 5)]
        calls += [promise(n, 15, 1, 0, 1000) for n in (1, 2, 3, 4, 5)]
        calls += [least(*[1] * 600)] * 9 + [BEST] + [STICKS] * 99
        self.assertEqual(len(calls), 120)
        told = run(*calls)
        self.assertEqual(told[11:20], [[-11]] * 9)
        self.assertEqual(told[20][:2], [0, 1])
        self.assertEqual(told[21:], [told[21]] * 99)


class RefusedCallTest(unittest.TestCase):
    REFUSED = [
        (begin(1, 3), -5), (begin(0, 3), -1),
        (stick(7, 1, 0, 10), -6), (stick(9, 1, 999, 2), -8), (stick(9, 0, 0, 10), -1),
        (keep(9, 1, 2), -3), (keep(7, 2, 2), -9), (keep(8, 4, 8), -9), (keep(8, 20, 26), -9), (keep(7, -1, 2), -1),
        (spoil(9, 1, 2), -3), (spoil(7, 2, 2), -9), (spoil(8, 4, 8), -9), (spoil(8, 20, 26), -9),
        (spoil(7, 2, 1001), -1),
        (promise(21, 1, 4, 0, 10), -10), (promise(23, 1, 4, 9, 9), -9), (promise(23, 1, 21, 0, 9), -1),
        (withdraw(23), -4), (withdraw(0), -1),
        (least(23), -4), (least(21, 21), -11), (least(0), -1),
        (check([256]), -1), (rests([-1]), -1), (can(23, 7), -4), (can(21, 9), -3), (can(0, 7), -1),
        (where(23), -4), (where(0), -1), (spares(23), -4), (spares(0), -1),
        (take(23, 7, 0), -4), (take(21, 9, 0), -3), (take(21, 7, 6), -12), (take(22, 8, 14, 7), -6),
        (take(21, 7, 0, 0), -1),
        (crack(9, 5, 10), -3), (crack(7, 10, 10), -9), (crack(7, 5, 8), -6), (crack(7, 5, 0), -1),
        (table(6), -1), (behind(9, 5, 0), -3), (behind(7, 11, 0), -9), (behind(7, 5, 4), -4), (behind(7, 5, 32), -1),
    ]

    def test_each_changes_nothing(self):
        plain = run(*SETUP, *TOLD)[len(SETUP):]
        for call, number in self.REFUSED:
            with self.subTest(call=call):
                told = run(*SETUP, call, *TOLD)
                self.assertEqual(told[len(SETUP)], [number])
                self.assertEqual(told[len(SETUP) + 1:], plain)

    def test_full_bench(self):
        full = [begin(1, 3)] + [stick(n, 1, 0, 10) for n in (1, 2, 3, 4, 5)]
        full += [piece(n, 0, 9) for n in (1, 2, 3, 4, 5)]
        told = run(*full, STICKS, PROMISES, BEST, stick(6, 1, 0, 9), piece(6, 0, 9), STICKS, PROMISES, BEST)
        self.assertEqual(told[-5:-3], [[-7], [-7]])
        self.assertEqual(told[-3:], told[-8:-5])

    def test_asking_changes_nothing(self):
        told = run(*SETUP, *(TOLD[:4] * 3))[len(SETUP):]
        self.assertEqual(told[:4], told[4:8])
        self.assertEqual(told[:4], told[8:])


if __name__ == "__main__":
    unittest.main()
