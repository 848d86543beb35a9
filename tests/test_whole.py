"""What is promised over the whole program, on benches at random."""

import itertools
import random
import unittest

from helper import (BEST, CLASH, MOST, PLAN, STICKS, SmallBench, behind, check, least, random_bench, rests, run,
                    sawn_steps, spares, table, take, taking, text_of, where)


def takings_of(text):
    """The takings of a plan's one text: the promise's id, the stick's id, the place."""
    return [tuple(int(word) for word in line.rstrip(";").split()[1::2]) for line in text.splitlines()]


class Taker:
    """Takes the takings of a plan one after the other, and knows of each step what became of it."""

    def __init__(self, bench):
        self.calls = bench.calls()
        self.lengths = {told[0]: told[2] for told in bench.promises}
        # By a stick's id: the stick of the plan that it comes from.
        self.origins = {told[0]: told[0] for told in bench.sticks}
        self.taken = []
        self.counted = 0

    def sticks(self):
        told = run(*self.calls, STICKS)[-1]
        return [told[at:at + 6] for at in range(1, len(told), 6)]

    def left(self):
        return {(self.origins[one[0]], step) for one in self.sticks() for step in range(one[2], one[3])}

    def take(self, ident, origin, place):
        for one in self.sticks():
            if self.origins[one[0]] == origin and one[2] <= place < one[3]:
                return self.take_from(one[0], ident, origin, place)
        raise AssertionError(f"nothing is left of {origin} at {place}")

    def take_from(self, stick_ident, ident, origin, place):
        other = 1000 + len(self.calls)
        call = take(ident, stick_ident, place, other)
        told = run(*self.calls, call)[-1]
        if told[0] == 0:
            self.calls.append(call)
            self.origins[other] = origin
            self.taken += [(origin, step) for step in range(place, place + self.lengths[ident])]
            self.counted += told[1]
        return told[0]


def plan_sawn(bench, takings):
    """The steps that a plan sends to the saw, each with its stick's id."""
    lengths = {told[0]: told[2] for told in bench.promises}
    found = set()
    for ident, lane, begins, steps, kept, spoilt in bench.sticks:
        row = sorted([(place, place + lengths[told]) for told, at, place in takings if at == ident])
        if row:
            found |= {(ident, step) for step in sawn_steps(bench.w, begins, begins + steps, row)}
    return found


class TakenPlanTest(unittest.TestCase):
    def hold(self, bench, takings, order):
        taker = Taker(bench)
        whole = taker.left()
        refusals = [taker.take(*told) for told in order]
        sawn = whole - taker.left() - set(taker.taken)
        # Who takes what a plan takes is refused for want of room for one more stick alone.
        self.assertLessEqual(set(refusals), {0, -7})
        self.assertEqual(len(sawn), taker.counted)
        if -7 in refusals:
            self.assertLessEqual(sawn, plan_sawn(bench, takings))
        else:
            self.assertEqual(sawn, plan_sawn(bench, takings))
        return -7 in refusals

    def test_best_plans_in_every_order(self):
        source = random.Random(91)
        tried = 0
        for turn in range(80):
            bench = random_bench(source, 2, 20, 4, 4)
            takings = takings_of(text_of(run(*bench.calls(), PLAN)[-1][2:]))
            if len(takings) < 2:
                continue
            orders = list(itertools.permutations(takings))
            for order in source.sample(orders, min(6, len(orders))):
                with self.subTest(turn=turn, bench=bench, order=order):
                    self.hold(bench, takings, order)
                    tried += 1
        self.assertGreater(tried, 60)

    def test_plans_at_random(self):
        source = random.Random(92)
        tried = full = 0
        for turn in range(600):
            bench = random_bench(source, 5, 20, 5, 3)
            takings = right_takings(source, bench)
            if len(takings) >= 2:
                with self.subTest(turn=turn, bench=bench, takings=takings):
                    full += self.hold(bench, takings, source.sample(takings, len(takings)))
                    tried += 1
        self.assertGreater(tried, 100)
        self.assertGreater(full, 5)


def right_takings(source, bench):
    """Takings with which nothing is wrong, out of order: one more is put in as long as check lets it."""
    takings = []
    for told in bench.promises:
        for turn in range(6):
            at = source.choice(bench.sticks) if bench.sticks else (1, 1, 0, 1)
            place = source.randint(at[2], at[2] + at[3] - 1)
            more = takings + [(told[0], at[0], place)]
            text = "".join([taking(*one) for one in more])
            if run(*bench.calls(), check(text))[-1][1] == 1:
                takings = more
                break
    source.shuffle(takings)
    return takings


class BestOfAllTest(unittest.TestCase):
    def test_no_plan_loses_less(self):
        source = random.Random(93)
        for turn in range(300):
            bench = random_bench(source, 4, 20, 5, 4)
            takings = right_takings(source, bench)
            text = "".join([taking(*one) for one in takings])
            told = run(*bench.calls(), check(text), least(*[one[0] for one in takings]))[-2:]
            with self.subTest(turn=turn, bench=bench, takings=takings):
                self.assertEqual(told[0][:3], [0, 1, len(takings)])
                self.assertEqual(told[1][:2], [0, 1])
                self.assertLessEqual(told[1][2], told[0][3])

    def test_check_of_the_best_plan_tells_what_best_tells(self):
        source = random.Random(94)
        kept = 0
        for turn in range(200):
            bench = random_bench(source, 4, 20, 5, 4)
            told = run(*bench.calls(), BEST, PLAN)[-2:]
            if told[0][1] == 1:
                kept += 1
                with self.subTest(turn=turn, bench=bench):
                    self.assertEqual(run(*bench.calls(), check(told[1][2:]))[-1],
                                     [0, 1, len(bench.promises), told[0][2]])
        self.assertGreater(kept, 50)


class StickMoreTest(unittest.TestCase):
    def test_never_makes_the_least_lost_of_a_set_more(self):
        source = random.Random(95)
        for turn in range(200):
            bench = random_bench(source, 4, 20, 4, 6)
            more = random_bench(source, 1, 20, 1, 1).sticks
            place = source.randint(0, len(bench.sticks))
            sticks = bench.sticks[:place] + [(77,) + told[1:] for told in more] + bench.sticks[place:]
            fewer = run(*bench.calls(), table(0))[-1]
            told = run(*SmallBench(bench.w, bench.m, sticks, bench.promises).calls(), table(0))[-1]
            with self.subTest(turn=turn, bench=bench, sticks=sticks):
                self.assertEqual(len(told), len(fewer))
                for at in range(1, len(told), 2):
                    if fewer[at] == 1:
                        self.assertEqual(told[at], 1)
                        self.assertLessEqual(told[at + 1], fewer[at + 1])


class IdsTest(unittest.TestCase):
    def test_ids_count_for_nothing_but_as_names(self):
        source = random.Random(96)
        for turn in range(100):
            bench = random_bench(source, 3, 14, 4, 4)
            if bench.sticks and bench.promises:
                names = {told[0]: source.randint(100, 10 ** 9) for told in bench.sticks + bench.promises}
                renamed = SmallBench(bench.w, bench.m, [(names[told[0]],) + told[1:] for told in bench.sticks],
                                     [(names[told[0]],) + told[1:] for told in bench.promises])
                with self.subTest(turn=turn, bench=bench, names=names):
                    self.hold(bench, renamed, names, right_takings(source, bench))

    def hold(self, bench, renamed, names, takings):
        plain = self.asked(bench, takings)
        other = self.asked(renamed, [(names[told], names[at], place) for told, at, place in takings])
        self.assertEqual(other[:5], plain[:5])
        self.assertEqual(other[5], [0] + [names[ident] for ident in plain[5][1:]])
        named = list(plain[6])
        named[3::3] = [names[ident] for ident in named[3::3]]
        named[4::3] = [names[ident] for ident in named[4::3]]
        self.assertEqual(other[6], named)
        named = list(plain[7])
        named[2::3] = [names[ident] for ident in named[2::3]]
        self.assertEqual(other[7], named)

    def asked(self, bench, takings):
        text = "".join([taking(*one) for one in takings])
        ident = bench.promises[-1][0]
        first = bench.sticks[0]
        return run(*bench.calls(), where(ident), spares(ident), table(0), behind(first[0], first[2] + 1, 1),
                   check(text), CLASH, MOST, rests(text))[-8:]


if __name__ == "__main__":
    unittest.main()
