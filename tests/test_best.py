"""best, plan and least: their answers, and the choice among plans that lose alike."""

import unittest

from helper import BEST, PLAN, begin, keep, last, least, piece, promise, run, spoil, stick, text_of, withdraw

EXAMPLE = [begin(1, 3), stick(7, 1, 0, 10), promise(21, 1, 4, 0, 10, 5), promise(22, 1, 5, 0, 10, 6)]


class ExampleTest(unittest.TestCase):
    def test_example_of_the_document(self):
        text = ("116 97 107 101 32 50 49 32 102 114 111 109 32 55 32 97 116 32 48 59 10 "
                "116 97 107 101 32 50 50 32 102 114 111 109 32 55 32 97 116 32 53 59 10")
        self.assertEqual(run(*EXAMPLE, BEST, PLAN),
                         [[0], [0], [0], [0], [0, 1, 1, 7, 0, 7, 5], [0, 1] + [int(n) for n in text.split()]])

    def test_least_of_its_sets(self):
        self.assertEqual(run(*EXAMPLE, least(), least(21), least(22), least(21, 22), least(22, 21))[4:],
                         [[0, 1, 0], [0, 1, 1], [0, 1, 1], [0, 1, 1], [0, 1, 1]])


class EmptyTest(unittest.TestCase):
    def test_nothing_there(self):
        self.assertEqual(run(begin(1, 3), BEST, PLAN, least())[1:], [[0, 1, 0], [0, 1], [0, 1, 0]])

    def test_no_promise(self):
        self.assertEqual(run(begin(1, 20), stick(7, 1, 0, 5), BEST, PLAN, least())[2:], [[0, 1, 0], [0, 1], [0, 1, 0]])

    def test_no_stick(self):
        self.assertEqual(run(begin(1, 3), promise(21, 1, 4, 0, 10), BEST, PLAN, least(21), least())[2:],
                         [[0, 0], [0, 0], [0, 0], [0, 1, 0]])

    def test_last_promise_withdrawn(self):
        self.assertEqual(run(*EXAMPLE, withdraw(21), withdraw(22), BEST, PLAN)[6:], [[0, 1, 0], [0, 1]])


class BestTest(unittest.TestCase):
    def test_answers_in_the_order_of_the_promises(self):
        told = last(begin(1, 0), stick(7, 1, 0, 10), stick(8, 2, 0, 10), promise(23, 2, 10, 0, 10),
                    promise(21, 1, 3, 7, 10), promise(22, 1, 6, 0, 6), BEST)
        self.assertEqual(told, [0, 1, 1, 8, 0, 7, 7, 7, 0])

    def test_can_not_be_kept_together(self):
        told = run(begin(1, 0), stick(7, 1, 0, 10), promise(21, 1, 5, 0, 10), promise(22, 1, 5, 0, 10), BEST, PLAN,
                   least(21, 22), least(21), least(22))
        self.assertEqual(told[4:], [[0, 0], [0, 0], [0, 0], [0, 1, 1], [0, 1, 1]])

    def test_each_promise_is_taken_once(self):
        told = last(begin(1, 0), stick(7, 1, 0, 10), stick(8, 1, 0, 10), promise(21, 1, 10, 0, 10),
                    promise(22, 1, 10, 0, 10), BEST)
        self.assertEqual(told[:3], [0, 1, 0])
        self.assertEqual(sorted(told[3::2]), [7, 8])

    def test_less_lost_goes_ahead_of_the_order_of_sticks(self):
        calls = [begin(1, 0), promise(21, 1, 10, 0, 1000)]
        self.assertEqual(last(*calls, stick(7, 1, 0, 15), stick(8, 1, 50, 10), BEST), [0, 1, 0, 8, 50])
        self.assertEqual(last(*calls, stick(8, 1, 50, 10), stick(7, 1, 0, 15), BEST), [0, 1, 0, 8, 50])

    def test_short_rest_is_weighed_against_cuts(self):
        # On 7 a rest of 2 goes with the cut, on 8 the rest is long enough.
        calls = [begin(1, 3), stick(7, 1, 0, 10), stick(8, 1, 50, 12), promise(21, 1, 7, 0, 1000)]
        self.assertEqual(last(*calls, BEST), [0, 1, 1, 8, 50])
        self.assertEqual(last(*calls, keep(7, 9, 10), BEST), [0, 1, 1, 8, 50])
        self.assertEqual(last(*calls, keep(7, 9, 10), keep(8, 50, 51), keep(8, 61, 62), BEST), [0, 1, 1, 7, 0])

    def test_a_promise_more_can_lose_less(self):
        calls = [begin(1, 3), stick(7, 1, 0, 10), promise(21, 1, 7, 0, 10), promise(22, 1, 2, 0, 10)]
        self.assertEqual(run(*calls, least(21), least(21, 22))[4:], [[0, 1, 3], [0, 1, 1]])


class ChoiceTest(unittest.TestCase):
    def test_first_stick_has_the_set_of_least_number(self):
        # One promise, two sticks that lose alike: the first stick's set is empty.
        self.assertEqual(last(begin(1, 0), stick(7, 1, 0, 10), stick(8, 1, 0, 10), promise(21, 1, 10, 0, 10), BEST),
                         [0, 1, 0, 8, 0])

    def test_sets_of_three_sticks(self):
        # Two promises, three sticks of their length: sets 0, 1, 2.
        sticks = [stick(n, 1, 0, 10) for n in (9, 5, 7)]
        self.assertEqual(last(begin(1, 0), *sticks, promise(21, 1, 10, 0, 10), promise(22, 1, 10, 0, 10), BEST),
                         [0, 1, 0, 5, 0, 7, 0])

    def test_number_of_a_set_not_how_many_it_has(self):
        # On stick 7 either promises 0 and 1 (set 3) or promise 2 (set 4), the others on stick 8.
        told = last(begin(1, 0), stick(7, 1, 0, 9), stick(8, 1, 0, 9), promise(1, 1, 4, 0, 9),
                    promise(2, 1, 4, 0, 9), promise(3, 1, 9, 0, 9), BEST)
        self.assertEqual(told, [0, 1, 1, 7, 0, 7, 5, 8, 0])

    def test_set_goes_ahead_of_takings(self):
        # Sets 1 and 2 on stick 7: by number it's promise 0 there.
        told = last(begin(1, 0), stick(7, 1, 0, 4), stick(8, 1, 0, 4), promise(2, 1, 4, 0, 9),
                    promise(1, 1, 4, 0, 9), BEST)
        self.assertEqual(told, [0, 1, 0, 7, 0, 8, 0])

    def test_first_taking_has_the_promise_of_least_number(self):
        told = last(begin(1, 0), stick(7, 1, 0, 10), promise(22, 1, 5, 0, 10), promise(21, 1, 4, 0, 10), BEST)
        self.assertEqual(told, [0, 1, 1, 7, 0, 7, 6])

    def test_least_number_goes_ahead_of_least_place(self):
        # Lost is 2 with promise 0 first at 1, or with promise 1 first at 0.
        told = last(begin(1, 0), stick(7, 1, 0, 5), promise(21, 1, 1, 1, 4), promise(22, 1, 2, 0, 5), BEST)
        self.assertEqual(told, [0, 1, 2, 7, 1, 7, 3])

    def test_least_place(self):
        self.assertEqual(last(begin(1, 0), stick(7, 1, 0, 10), promise(21, 1, 4, 0, 10), BEST), [0, 1, 1, 7, 0])
        self.assertEqual(last(begin(1, 0), stick(7, 1, 0, 10), promise(21, 1, 4, 1, 9), BEST), [0, 1, 2, 7, 1])

    def test_then_the_next_taking(self):
        # Promise 0 lies at 0; of the two behind it, alike long, the lesser number comes first.
        told = last(begin(1, 0), stick(7, 1, 0, 11), promise(23, 1, 3, 0, 3), promise(22, 1, 3, 0, 11),
                    promise(21, 1, 3, 0, 11), BEST)
        self.assertEqual(told, [0, 1, 2, 7, 0, 7, 4, 7, 8])
        # Promise 0 lies at 0; wherever the other one lies in its stretch, 3 is lost: it lies at its first place.
        told = last(begin(1, 0), stick(7, 1, 0, 20), promise(21, 1, 3, 0, 3), promise(22, 1, 3, 5, 15), BEST)
        self.assertEqual(told, [0, 1, 3, 7, 0, 7, 5])

    def test_ids_count_for_nothing(self):
        def told(first, second, a, b, c):
            return last(begin(1, 2), stick(first, 1, 0, 9), stick(second, 1, 5, 9), promise(a, 1, 4, 0, 20),
                        promise(b, 1, 4, 0, 20), promise(c, 1, 3, 0, 20), BEST)
        plain = told(1, 2, 1, 2, 3)
        for first, second, a, b, c in ((2, 1, 3, 2, 1), (1000000000, 7, 50, 1000000000, 9)):
            found = told(first, second, a, b, c)
            self.assertEqual(found[:3], plain[:3])
            self.assertEqual(found[4::2], plain[4::2])
            self.assertEqual(found[3::2], [{1: first, 2: second}[ident] for ident in plain[3::2]])

    def test_worth_counts_for_nothing(self):
        for worths in ((0, 1000), (1000, 0)):
            told = last(begin(1, 0), stick(7, 1, 0, 9), promise(21, 1, 4, 0, 9, worths[0]),
                        promise(22, 1, 4, 0, 9, worths[1]), BEST)
            self.assertEqual(told, [0, 1, 1, 7, 0, 7, 5])


class PlanTest(unittest.TestCase):
    def test_lines_by_sticks_then_by_places(self):
        told = last(begin(1, 0), stick(1000000000, 1, 990, 10), stick(8, 2, 0, 10), promise(23, 2, 10, 0, 10),
                    piece(21, 997, 1000), piece(1000000000, 990, 996), PLAN)
        self.assertEqual(told[:2], [0, 1])
        self.assertEqual(text_of(told[2:]), "take 1000000000 from 1000000000 at 990;\n"
                                            "take 21 from 1000000000 at 997;\n"
                                            "take 23 from 8 at 0;\n")

    def test_sticks_in_the_order_told_not_by_ids(self):
        told = last(begin(1, 0), stick(9, 1, 50, 4), stick(3, 1, 0, 4), piece(1, 0, 4), piece(2, 50, 54), PLAN)
        self.assertEqual(text_of(told[2:]), "take 2 from 9 at 50;\ntake 1 from 3 at 0;\n")

    def test_is_the_plan_of_best(self):
        calls = [begin(2, 4), stick(3, 1, 0, 20), stick(4, 3, 10, 18), spoil(3, 6, 8), keep(4, 20, 21),
                 promise(31, 5, 3, 0, 40), promise(32, 5, 4, 2, 40), promise(33, 15, 5, 0, 25),
                 promise(34, 4, 2, 0, 30)]
        told = run(*calls, BEST, PLAN)
        takings = []
        for number, ident in enumerate((31, 32, 33, 34)):
            takings.append((told[-2][3 + 2 * number], told[-2][4 + 2 * number], ident))
        lines = [f"take {ident} from {where} at {place};\n" for where, place, ident in sorted(takings)]
        self.assertEqual(text_of(told[-1][2:]), "".join(lines))


class LeastTest(unittest.TestCase):
    def test_no_such_promise(self):
        for idents in ((99,), (21, 99), (99, 21), (7,), (21, 22, 99)):
            self.assertEqual(last(*EXAMPLE, least(*idents)), [-4])
        self.assertEqual(last(*EXAMPLE, withdraw(22), least(21, 22)), [-4])

    def test_twice(self):
        for idents in ((21, 21), (21, 22, 21), (22, 21, 21), [21] * 600):
            self.assertEqual(last(*EXAMPLE, least(*idents)), [-11])

    def test_no_such_promise_goes_ahead_of_twice(self):
        for idents in ((21, 21, 99), (99, 99), (99, 21, 21), [21] * 599 + [99]):
            self.assertEqual(last(*EXAMPLE, least(*idents)), [-4])

    def test_only_these_are_taken(self):
        calls = [begin(1, 0), stick(7, 1, 0, 9)] + [promise(n, 1, 4, 0, 9) for n in (1, 2, 3)]
        self.assertEqual(run(*calls, least(1, 2, 3), least(1, 3), least(3), least(3, 2))[5:],
                         [[0, 0], [0, 1, 1], [0, 1, 1], [0, 1, 1]])

    def test_all_five(self):
        calls = [begin(1, 0), stick(7, 1, 0, 20)] + [promise(n, 1, 3, 0, 20) for n in (1, 2, 3, 4, 5)]
        self.assertEqual(run(*calls, least(5, 4, 3, 2, 1), BEST)[7:],
                         [[0, 1, 5], [0, 1, 5, 7, 0, 7, 4, 7, 8, 7, 12, 7, 16]])


if __name__ == "__main__":
    unittest.main()
