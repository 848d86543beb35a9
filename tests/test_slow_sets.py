"""clash, most, where, spares, table and behind against a slow search through all plans on small benches."""

import random
import unittest

from helper import (CLASH, MOST, SmallBench, all_plans, behind, random_bench, run, slow_best, spares, table, where)


def numbers_in(chosen):
    return [number for number in range(5) if chosen >> number & 1]


def slow_keys(bench):
    """For each set of promises the key of its best plan, or None."""
    return [slow_best(bench, numbers_in(chosen)) for chosen in range(2 ** len(bench.promises))]


def slow_clash(bench, keys):
    chosen = len(keys) - 1
    if keys[chosen] is not None:
        return [0]
    for number in range(len(bench.promises)):
        if keys[chosen - 2 ** number] is None:
            chosen -= 2 ** number
    return [0] + [bench.promises[number][0] for number in numbers_in(chosen)]


def slow_most(bench, keys):
    found = []
    for chosen, key in enumerate(keys):
        if key is not None:
            worth = sum(bench.promises[number][5] for number in numbers_in(chosen))
            found.append((-worth, key[0], chosen))
    worth, lost, chosen = min(found)
    told = [0, -worth, lost]
    spots = {number: [bench.sticks[at][0], place] for at, row in enumerate(keys[chosen][2]) for number, place in row}
    for number in numbers_in(chosen):
        told += [bench.promises[number][0]] + spots[number]
    return told


def pair(lost):
    return [0, 0] if lost is None else [1, lost]


def slow_where(bench, number):
    plans = all_plans(bench, range(len(bench.promises)))
    told = [0]
    for at in range(len(bench.sticks)):
        told += pair(min([lost for lost, sets, rows in plans if sets[at] >> number & 1], default=None))
    return told


def slow_spares(keys, number):
    if keys[-1] is None:
        return [0, 0]
    return [0, 1, keys[-1][0] - keys[len(keys) - 1 - 2 ** number][0]]


def slow_table(bench, n):
    later = SmallBench(bench.w, bench.m, bench.sticks[n:], bench.promises)
    return [0] + [number for key in slow_keys(later) for number in pair(None if key is None else key[0])]


def slow_behind(bench, at, place, chosen):
    """On a stick that has one step ahead of the place, and this step taken, with nothing to saw or to leave there."""
    ident, lane, begins, steps, kept, spoilt = bench.sticks[at]
    ends = begins + steps
    left = [[(max(first, place), end) for first, end in pairs] for pairs in (kept, spoilt)]
    cut = SmallBench(bench.w, bench.m, [(ident, lane, place - 1, ends - place + 1, *left)],
                     bench.promises + [(99, 15, 1, place - 1, place, 0)])
    key = slow_best(cut, numbers_in(chosen) + [len(bench.promises)])
    return [0, 0] if key is None else [0, 1, key[0]]


class SlowSetsTest(unittest.TestCase):
    def benches(self, seed, turns, *sizes):
        source = random.Random(seed)
        return [random_bench(source, *sizes) for turn in range(turns)]

    def hold(self, bench, asked, expected):
        """Asked ten at a time, as no line may have more of these calls."""
        for first in range(0, len(asked), 10):
            told = run(*bench.calls(), *asked[first:first + 10])
            with self.subTest(bench=bench, asked=asked[first:first + 10]):
                self.assertEqual(told[len(bench.calls()):], expected[first:first + 10])

    def test_clash_and_most(self):
        clashes = {}
        for bench in self.benches(71, 300, 2, 9, 4, 4):
            keys = slow_keys(bench)
            clash = slow_clash(bench, keys)
            self.hold(bench, [CLASH, MOST], [clash, slow_most(bench, keys)])
            clashes[len(clash) - 1] = clashes.get(len(clash) - 1, 0) + 1
        # Each size of a clash must have been tried.
        self.assertTrue(min(clashes.get(size, 0) for size in (0, 1, 2, 3)) > 4, clashes)

    def test_most_of_alike_worth(self):
        for bench in self.benches(72, 150, 2, 9, 4, 5):
            bench.promises = [told[:5] + (told[5] % 2,) for told in bench.promises]
            self.hold(bench, [MOST], [slow_most(bench, slow_keys(bench))])

    def test_where_and_spares(self):
        kept = below = 0
        for bench in self.benches(73, 300, 3, 9, 3, 4):
            keys = slow_keys(bench)
            numbers = range(len(bench.promises))
            idents = [told[0] for told in bench.promises]
            told_spares = [slow_spares(keys, number) for number in numbers]
            self.hold(bench, [where(ident) for ident in idents], [slow_where(bench, number) for number in numbers])
            self.hold(bench, [spares(ident) for ident in idents], told_spares)
            kept += keys[-1] is not None
            below += any(told[-1] < 0 for told in told_spares)
        self.assertTrue(50 < kept < 290, kept)
        self.assertTrue(below > 5, below)

    def test_table(self):
        for bench in self.benches(74, 120, 3, 9, 3, 4):
            self.hold(bench, [table(n) for n in range(6)], [slow_table(bench, n) for n in range(6)])

    def test_behind(self):
        for bench in self.benches(75, 60, 2, 10, 3, 3):
            asked, expected = [], []
            for at, told in enumerate(bench.sticks):
                for place in range(told[2], told[2] + told[3] + 1):
                    for chosen in range(2 ** len(bench.promises)):
                        asked.append(behind(told[0], place, chosen))
                        expected.append(slow_behind(bench, at, place, chosen))
            self.hold(bench, asked, expected)


if __name__ == "__main__":
    unittest.main()
