"""best, plan and least against a slow search through all plans on small benches."""

import itertools
import random
import unittest

from helper import BEST, PLAN, can_take, least, random_bench, row_lost, run, slow_best, taking, text_of


def all_rows(bench, where):
    """For each set of promises the key of this stick's best row, found through all rows."""
    found = {0: (0, [])}
    spots = [(place, number) for number in range(len(bench.promises)) for place in range(1001)
             if can_take(bench, number, where, place)]
    rows = [[]]
    while rows:
        row = rows.pop()
        behind = row[-1][1] + bench.promises[row[-1][0]][2] if row else 0
        for place, number in spots:
            if place >= behind and number not in [taken for taken, at in row]:
                longer = row + [(number, place)]
                rows.append(longer)
                lost = row_lost(bench, where, longer)
                chosen = sum(2 ** taken for taken, at in longer)
                if lost is not None and (chosen not in found or (lost, longer) < found[chosen]):
                    found[chosen] = (lost, longer)
    return found


def slow_best_by_rows(bench):
    """Like slow_best for all promises, through all ways to share them among the sticks."""
    tables = [all_rows(bench, where) for where in range(len(bench.sticks))]
    keys = []
    for shares in itertools.product(range(len(tables)), repeat=len(bench.promises)):
        sets = [sum(2 ** n for n, at in enumerate(shares) if at == where) for where in range(len(tables))]
        rows = [table.get(chosen) for table, chosen in zip(tables, sets)]
        if None not in rows:
            keys.append((sum(lost for lost, row in rows), sets, [row for lost, row in rows]))
    return min(keys, default=None)


def best_told(bench, key):
    if key is None:
        return [0, 0]
    spots = {number: [told[0], place] for told, row in zip(bench.sticks, key[2]) for number, place in row}
    return [0, 1, key[0]] + [value for number in sorted(spots) for value in spots[number]]


def text_told(bench, key):
    return "".join([taking(bench.promises[number][0], told[0], place)
                    for told, row in zip(bench.sticks, key[2]) for number, place in row])


class SlowSearchTest(unittest.TestCase):
    def hold_against(self, bench, key):
        told = run(*bench.calls(), BEST, PLAN)
        self.assertEqual(told[:-2], [[0]] * (len(told) - 2))
        self.assertEqual(told[-2], best_told(bench, key))
        self.assertEqual(told[-1][:2], [0, 0 if key is None else 1])
        self.assertEqual(text_of(told[-1][2:]), "" if key is None else text_told(bench, key))

    def test_small_benches_through_all_plans(self):
        source = random.Random(61)
        kept = 0
        for turn in range(400):
            bench = random_bench(source, 3, 9, 3, 4)
            with self.subTest(turn=turn, bench=bench):
                key = slow_best(bench, range(len(bench.promises)))
                self.hold_against(bench, key)
                kept += key is not None
        # Neither answer may be a rare one among the benches tried.
        self.assertTrue(100 < kept < 390, kept)

    def test_sets_of_promises_through_all_plans(self):
        source = random.Random(62)
        for turn in range(60):
            bench = random_bench(source, 2, 10, 3, 3)
            count = len(bench.promises)
            subsets = [list(c) for size in range(count + 1) for c in itertools.combinations(range(count), size)]
            source.shuffle(subsets)
            told = run(*bench.calls(), *[least(*[bench.promises[n][0] for n in numbers]) for numbers in subsets])
            for numbers, found in zip(subsets, told[-len(subsets):]):
                with self.subTest(turn=turn, bench=bench, numbers=numbers):
                    key = slow_best(bench, numbers)
                    self.assertEqual(found, [0, 0] if key is None else [0, 1, key[0]])

    def test_five_promises_through_all_rows(self):
        source = random.Random(63)
        for turn in range(60):
            bench = random_bench(source, 4, 14, 5, 4)
            with self.subTest(turn=turn, bench=bench):
                self.hold_against(bench, slow_best_by_rows(bench))

    def test_the_two_searches_agree(self):
        source = random.Random(64)
        for turn in range(60):
            bench = random_bench(source, 3, 8, 3, 3)
            with self.subTest(turn=turn, bench=bench):
                self.assertEqual(slow_best_by_rows(bench), slow_best(bench, range(len(bench.promises))))


if __name__ == "__main__":
    unittest.main()
