"""best, plan and least against a slow search through all plans on small benches.

The search shares nothing with the program: it paints each step of a stick
(taken, sawn or left) and judges the rows by the document's words alone.
"""

import itertools
import random
import unittest

from helper import BEST, PLAN, begin, keep, least, promise, run, spoil, stick, text_of


class SmallBench:
    def __init__(self, w, m, sticks, promises):
        self.w = w
        self.m = m
        # A stick: id, lane, place, steps, list of kept pairs, list of spoilt pairs.
        self.sticks = sticks
        # A promise: id, lanes, length, place, other.
        self.promises = promises

    def calls(self):
        made = [begin(self.w, self.m)]
        for ident, lane, place, steps, kept, spoilt in self.sticks:
            made.append(stick(ident, lane, place, steps))
            made += [keep(ident, first, end) for first, end in kept]
            made += [spoil(ident, first, end) for first, end in spoilt]
        return made + [promise(*told) for told in self.promises]

    def __repr__(self):
        return f"SmallBench({self.w}, {self.m}, {self.sticks}, {self.promises})"


def steps_of(pairs):
    return {step for first, end in pairs for step in range(first, end)}


def can_take(bench, number, where, place):
    ident, lane, begins, steps, kept, spoilt = bench.sticks[where]
    told, lanes, length, low, high = bench.promises[number]
    taken = set(range(place, place + length))
    return (lanes >> (lane - 1) & 1 == 1
            and taken <= set(range(begins, begins + steps))
            and taken <= set(range(low, high))
            and not taken & (steps_of(kept) | steps_of(spoilt)))


def sawn_steps(w, begins, ends, takings):
    """The steps that go to the saw by a row of takings (place, end), or None if a gap isn't as told."""
    sawn = set()
    first, last = takings[0][0], takings[-1][1]
    if 0 < first - begins < w or 0 < ends - last < w:
        return None
    if first > begins:
        sawn |= set(range(first - w, first))
    if ends > last:
        sawn |= set(range(last, last + w))
    for (_, here), (there, _) in zip(takings, takings[1:]):
        if there - here != w and there - here < 2 * w:
            return None
        sawn |= set(range(here, here + w)) | set(range(there - w, there))
    return sawn


def row_lost(bench, where, row):
    """What a row of (number, place), by rising places, loses; None if it isn't right."""
    if not row:
        return 0
    begins = bench.sticks[where][2]
    ends = begins + bench.sticks[where][3]
    kept = steps_of(bench.sticks[where][4])
    takings = [(place, place + bench.promises[number][2]) for number, place in row]
    sawn = sawn_steps(bench.w, begins, ends, takings)
    if sawn is None or sawn & kept:
        return None
    bounds = [begins] + [place for pair in takings for place in pair] + [ends]
    lost = len(sawn)
    for first, end in zip(bounds[::2], bounds[1::2]):
        rest = set(range(first, end)) - sawn
        if len(rest) < bench.m and not rest & kept:
            lost += len(rest)
    return lost


def plan_key(bench, numbers, spots):
    """What a plan loses and all by which the document chooses among plans, or None if it's no plan."""
    lost, sets, rows = 0, [], []
    for where in range(len(bench.sticks)):
        taken = [(place, number) for number, (at, place) in zip(numbers, spots) if at == where]
        row = [(number, place) for place, number in sorted(taken)]
        here = row_lost(bench, where, row)
        if here is None:
            return None
        lost += here
        sets.append(sum(2 ** number for number, place in row))
        rows.append(row)
    return (lost, sets, rows)


def slow_best(bench, numbers):
    options = []
    for number in numbers:
        options.append([(where, place) for where, told in enumerate(bench.sticks)
                        for place in range(told[2], told[2] + told[3]) if can_take(bench, number, where, place)])
    keys = [plan_key(bench, numbers, spots) for spots in itertools.product(*options)]
    return min([key for key in keys if key is not None], default=None)


def all_rows(bench, where):
    """For each set of promises the key of this stick's best row, found through all rows."""
    found = {0: (0, [])}
    spots = [(place, number) for number in range(len(bench.promises)) for place in range(1001)
             if can_take(bench, number, where, place)]
    rows = [[]]
    while rows:
        row = rows.pop()
        behind = row[-1][1] + bench.promises[row[-1][0]][2] if row else 0
        for place, number in spots:
            if place >= behind and number not in [taken for taken, at in row]:
                longer = row + [(number, place)]
                rows.append(longer)
                lost = row_lost(bench, where, longer)
                chosen = sum(2 ** taken for taken, at in longer)
                if lost is not None and (chosen not in found or (lost, longer) < found[chosen]):
                    found[chosen] = (lost, longer)
    return found


def slow_best_by_rows(bench):
    """Like slow_best for all promises, through all ways to share them among the sticks."""
    tables = [all_rows(bench, where) for where in range(len(bench.sticks))]
    keys = []
    for shares in itertools.product(range(len(tables)), repeat=len(bench.promises)):
        sets = [sum(2 ** n for n, at in enumerate(shares) if at == where) for where in range(len(tables))]
        rows = [table.get(chosen) for table, chosen in zip(tables, sets)]
        if None not in rows:
            keys.append((sum(lost for lost, row in rows), sets, [row for lost, row in rows]))
    return min(keys, default=None)


def random_pairs(source, place, steps, most):
    pairs = []
    for _ in range(source.randint(0, most)):
        first = source.randint(place, place + steps - 1)
        pairs.append((first, source.randint(first + 1, min(first + 3, place + steps))))
    return pairs


def random_bench(source, most_sticks, most_steps, most_promises, most_length):
    sticks, promises = [], []
    idents = source.sample(range(1, 50), 10)
    for n in range(source.randint(0 if source.random() < 0.1 else 1, most_sticks)):
        place, steps = source.randint(0, 6), source.randint(1, most_steps)
        kept = random_pairs(source, place, steps, source.choice((0, 0, 1)))
        spoilt = random_pairs(source, place, steps, source.choice((0, 0, 1)))
        sticks.append((idents[n], source.choice((1, 1, 2, 3, 4)), place, steps, kept, spoilt))
    for n in range(source.randint(0 if source.random() < 0.1 else 1, most_promises)):
        low = source.choice((0, 0, 0, source.randint(0, 8)))
        high = source.choice((30, 30, low + source.randint(1, 12)))
        lanes = source.choice((15, 15, 15, source.randint(1, 15)))
        promises.append((idents[n + 5], lanes, source.randint(1, most_length), low, high))
    return SmallBench(source.choice((1, 1, 2, 3)), source.choice((0, 1, 2, 3, 4, 6)), sticks, promises)


def best_told(bench, key):
    if key is None:
        return [0, 0]
    spots = {number: [told[0], place] for told, row in zip(bench.sticks, key[2]) for number, place in row}
    return [0, 1, key[0]] + [value for number in sorted(spots) for value in spots[number]]


def text_told(bench, key):
    lines = [f"take {bench.promises[number][0]} from {told[0]} at {place};\n"
             for told, row in zip(bench.sticks, key[2]) for number, place in row]
    return "".join(lines)


class SlowSearchTest(unittest.TestCase):
    def hold_against(self, bench, key):
        told = run(*bench.calls(), BEST, PLAN)
        self.assertEqual(told[:-2], [[0]] * (len(told) - 2))
        self.assertEqual(told[-2], best_told(bench, key))
        self.assertEqual(told[-1][:2], [0, 0 if key is None else 1])
        self.assertEqual(text_of(told[-1][2:]), "" if key is None else text_told(bench, key))

    def test_small_benches_through_all_plans(self):
        source = random.Random(61)
        kept = 0
        for turn in range(400):
            bench = random_bench(source, 3, 9, 3, 4)
            with self.subTest(turn=turn, bench=bench):
                key = slow_best(bench, range(len(bench.promises)))
                self.hold_against(bench, key)
                kept += key is not None
        # Neither answer may be a rare one among the benches tried.
        self.assertTrue(100 < kept < 390, kept)

    def test_sets_of_promises_through_all_plans(self):
        source = random.Random(62)
        for turn in range(60):
            bench = random_bench(source, 2, 10, 3, 3)
            count = len(bench.promises)
            subsets = [list(c) for size in range(count + 1) for c in itertools.combinations(range(count), size)]
            source.shuffle(subsets)
            told = run(*bench.calls(), *[least(*[bench.promises[n][0] for n in numbers]) for numbers in subsets])
            for numbers, found in zip(subsets, told[-len(subsets):]):
                with self.subTest(turn=turn, bench=bench, numbers=numbers):
                    key = slow_best(bench, numbers)
                    self.assertEqual(found, [0, 0] if key is None else [0, 1, key[0]])

    def test_five_promises_through_all_rows(self):
        source = random.Random(63)
        for turn in range(60):
            bench = random_bench(source, 4, 14, 5, 4)
            with self.subTest(turn=turn, bench=bench):
                self.hold_against(bench, slow_best_by_rows(bench))

    def test_the_two_searches_agree(self):
        source = random.Random(64)
        for turn in range(60):
            bench = random_bench(source, 3, 8, 3, 3)
            with self.subTest(turn=turn, bench=bench):
                self.assertEqual(slow_best_by_rows(bench), slow_best(bench, range(len(bench.promises))))


class StickMoreTest(unittest.TestCase):
    def test_never_makes_the_least_lost_more(self):
        source = random.Random(65)
        for turn in range(200):
            bench = random_bench(source, 5, 20, 5, 6)
            losses = []
            for count in range(len(bench.sticks) + 1):
                fewer = SmallBench(bench.w, bench.m, bench.sticks[:count], bench.promises)
                told = run(*fewer.calls(), BEST)[-1]
                losses.append(told[2] if told[1] == 1 else 10 ** 6)
            with self.subTest(turn=turn, bench=bench):
                self.assertEqual(losses, sorted(losses, reverse=True))


if __name__ == "__main__":
    unittest.main()
