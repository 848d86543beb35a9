"""check and rests against the document's words told slowly, on small benches with takings at random."""

import random
import unittest

from helper import can_take, check, random_bench, rests, run, steps_of, taking


def sawn_in_gap(w, first, end, front, back):
    """The steps of a gap that go to the saw, or None if it isn't as told."""
    steps = list(range(first, end))
    if end < first:
        return None
    if front and back:
        if len(steps) == w:
            return set(steps)
        return set(steps[:w] + steps[-w:]) if len(steps) >= 2 * w else None
    if len(steps) == 0:
        return set()
    if len(steps) < w:
        return None
    return set(steps[:w]) if front else set(steps[-w:])


class Judge:
    def __init__(self, bench, takings):
        self.bench = bench
        # A taking: the promise's id, the stick's id, the place.
        self.takings = takings
        self.idents = [told[0] for told in bench.promises]
        self.stick_idents = [told[0] for told in bench.sticks]

    def gaps(self, at):
        """A stick's gaps: first, end, is a taking ahead, is one behind, the taking told."""
        ident, lane, begins, steps, kept, spoilt = self.bench.sticks[at]
        row = [(count, told) for count, told in enumerate(self.takings) if told[1] == ident]
        row.sort(key=lambda one: one[1][2])
        found = []
        ahead = begins
        for order, (count, told) in enumerate(row):
            found.append((ahead, told[2], order > 0, True, count + 1))
            ahead = told[2] + self.bench.promises[self.idents.index(told[0])][2]
        if row:
            found.append((ahead, begins + steps, True, False, row[-1][0] + 1))
        return found

    def cut_gaps(self):
        for at, told in enumerate(self.bench.sticks):
            for first, end, front, back, count in self.gaps(at):
                yield at, first, end, count, sawn_in_gap(self.bench.w, first, end, front, back)

    def is_wrong(self, kind, count):
        ident, where, place = self.takings[count]
        if kind == 1:
            return ident not in self.idents
        if kind == 2:
            return where not in self.stick_idents
        if kind == 3:
            return ident in [told[0] for told in self.takings[:count]]
        return not can_take(self.bench, self.idents.index(ident), self.stick_idents.index(where), place)

    def wrong(self):
        for kind in (1, 2, 3, 4):
            for count in range(len(self.takings)):
                if self.is_wrong(kind, count):
                    return [0, 2, kind, count + 1]
        for at, first, end, count, sawn in self.cut_gaps():
            if sawn is None:
                return [0, 2, 5, count]
        for at, first, end, count, sawn in self.cut_gaps():
            if sawn & steps_of(self.bench.sticks[at][4]):
                return [0, 2, 6, count]
        return None

    def check(self):
        lost = 0
        for at, first, end, count, sawn in self.cut_gaps():
            left = set(range(first, end)) - sawn
            lost += len(sawn)
            if len(left) < self.bench.m and not left & steps_of(self.bench.sticks[at][4]):
                lost += len(left)
        return [0, 1, len(self.takings), lost]

    def rests(self):
        found = [0, 1]
        for at, (ident, lane, begins, steps, kept, spoilt) in enumerate(self.bench.sticks):
            if not self.gaps(at):
                found += [ident, begins, begins + steps]
            for where, first, end, count, sawn in self.cut_gaps():
                left = set(range(first, end)) - sawn
                if where == at and left:
                    found += [ident, min(left), max(left) + 1]
        return found


def random_takings(source, bench):
    """Takings of which most can be taken, most of them of unlike promises, on few sticks."""
    takings = []
    for number in source.sample(range(len(bench.promises)), source.randint(0, len(bench.promises))):
        at = source.choice([0, 0, len(bench.sticks) - 1])
        places = [place for place in range(30) if can_take(bench, number, at, place)]
        place = source.choice(places) if places and source.random() < 0.97 else source.randint(0, 12)
        takings.append([bench.promises[number][0], bench.sticks[at][0], place])
    if takings and source.random() < 0.25:
        spot = source.randint(0, 2)
        other = source.choice(takings)
        source.choice(takings)[spot] = source.choice([0, 50, other[spot], other[spot]])
    return takings


class SlowCheckTest(unittest.TestCase):
    def test_random_takings(self):
        source = random.Random(81)
        found = {}
        for turn in range(4000):
            bench = random_bench(source, 3, 14, 4, 3)
            if not bench.sticks:
                continue
            takings = random_takings(source, bench)
            judge = Judge(bench, takings)
            wrong = judge.wrong()
            text = "".join([taking(*told) for told in takings])
            with self.subTest(turn=turn, bench=bench, takings=takings):
                self.assertEqual(run(*bench.calls(), check(text), rests(text))[-2:],
                                 [wrong, wrong] if wrong else [judge.check(), judge.rests()])
            key = (wrong[2], min(wrong[3], 2)) if wrong else (0, min(len(takings), 3))
            found[key] = found.get(key, 0) + 1
        # Each kind, at the first taking and at a later one, and right texts of up to three takings.
        keys = [(kind, count) for kind in (1, 2, 4, 5, 6) for count in (1, 2)] + [(3, 2)]
        keys += [(0, count) for count in (0, 1, 2, 3)]
        self.assertTrue(min(found.get(key, 0) for key in keys) >= 10, found)


if __name__ == "__main__":
    unittest.main()
