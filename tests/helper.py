"""Calls by their names, a list of them answered call by call, and a slow search through all plans.

The search shares nothing with the program: it paints each step of a stick
(taken, sawn or left) and judges the rows by the document's words alone.
"""

import itertools

from icecuts.bench import answers

BEST = [8]
PLAN = [9]
STICKS = [6]
PROMISES = [7]
CLASH = [11]
MOST = [12]


def begin(w, m):
    return [0, w, m]


def stick(ident, lane, place, steps):
    return [1, ident, lane, place, steps]


def keep(ident, place, other):
    return [2, ident, place, other]


def spoil(ident, place, other):
    return [3, ident, place, other]


def promise(ident, lanes, length, place, other, worth=1):
    return [4, ident, lanes, length, place, other, worth]


def piece(ident, place, end):
    """A promise that can be taken at one place alone, from lane 1."""
    return promise(ident, 1, end - place, place, end)


def withdraw(ident):
    return [5, ident]


def least(*idents):
    return [10, len(idents)] + list(idents)


def text_call(number, text):
    """A call with a text, told as a str or as a list of numbers."""
    numbers = list(text.encode("latin-1")) if isinstance(text, str) else list(text)
    return [number, len(numbers)] + numbers


def check(text):
    return text_call(13, text)


def can(ident, where):
    return [14, ident, where]


def rests(text):
    return text_call(15, text)


def where(ident):
    return [16, ident]


def spares(ident):
    return [17, ident]


def take(ident, where, place, other=1000000000):
    return [18, ident, where, place, other]


def crack(ident, place, other):
    return [19, ident, place, other]


def table(n):
    return [20, n]


def behind(ident, place, chosen):
    return [21, ident, place, chosen]


def taking(ident, where, place):
    """A taking as a line of a plan's text."""
    return f"take {ident} from {where} at {place};\n"


def run(*calls):
    flat = [number for call in calls for number in call]
    told = answers(flat)
    found = []
    place = 0
    while place < len(told):
        size = told[place]
        found.append(told[place + 1:place + 1 + size])
        place += 1 + size
    if place != len(told) or len(found) != len(calls):
        raise AssertionError(f"{len(calls)} calls, but answered was {told}")
    return found


def last(*calls):
    return run(*calls)[-1]


def text_of(numbers):
    return bytes(numbers).decode("ascii")


class SmallBench:
    def __init__(self, w, m, sticks, promises):
        self.w = w
        self.m = m
        # A stick: id, lane, place, steps, list of kept pairs, list of spoilt pairs.
        self.sticks = sticks
        # A promise: id, lanes, length, place, other, worth.
        self.promises = promises

    def calls(self):
        made = [begin(self.w, self.m)]
        for ident, lane, place, steps, kept, spoilt in self.sticks:
            made.append(stick(ident, lane, place, steps))
            made += [keep(ident, first, end) for first, end in kept]
            made += [spoil(ident, first, end) for first, end in spoilt]
        return made + [promise(*told) for told in self.promises]

    def __repr__(self):
        return f"SmallBench({self.w}, {self.m}, {self.sticks}, {self.promises})"


def steps_of(pairs):
    return {step for first, end in pairs for step in range(first, end)}


def can_take(bench, number, where, place):
    ident, lane, begins, steps, kept, spoilt = bench.sticks[where]
    told, lanes, length, low, high, worth = bench.promises[number]
    taken = set(range(place, place + length))
    return (lanes >> (lane - 1) & 1 == 1
            and taken <= set(range(begins, begins + steps))
            and taken <= set(range(low, high))
            and not taken & (steps_of(kept) | steps_of(spoilt)))


def sawn_steps(w, begins, ends, takings):
    """The steps that go to the saw by a row of takings (place, end), or None if a gap isn't as told."""
    sawn = set()
    first, last = takings[0][0], takings[-1][1]
    if 0 < first - begins < w or 0 < ends - last < w:
        return None
    if first > begins:
        sawn |= set(range(first - w, first))
    if ends > last:
        sawn |= set(range(last, last + w))
    for (_, here), (there, _) in zip(takings, takings[1:]):
        if there - here != w and there - here < 2 * w:
            return None
        sawn |= set(range(here, here + w)) | set(range(there - w, there))
    return sawn


def row_lost(bench, where, row):
    """What a row of (number, place), by rising places, loses; None if it isn't right."""
    if not row:
        return 0
    begins = bench.sticks[where][2]
    ends = begins + bench.sticks[where][3]
    kept = steps_of(bench.sticks[where][4])
    takings = [(place, place + bench.promises[number][2]) for number, place in row]
    sawn = sawn_steps(bench.w, begins, ends, takings)
    if sawn is None or sawn & kept:
        return None
    bounds = [begins] + [place for pair in takings for place in pair] + [ends]
    lost = len(sawn)
    for first, end in zip(bounds[::2], bounds[1::2]):
        rest = set(range(first, end)) - sawn
        if len(rest) < bench.m and not rest & kept:
            lost += len(rest)
    return lost


def plan_key(bench, numbers, spots):
    """What a plan loses and all by which the document chooses among plans, or None if it's no plan."""
    lost, sets, rows = 0, [], []
    for where in range(len(bench.sticks)):
        taken = [(place, number) for number, (at, place) in zip(numbers, spots) if at == where]
        row = [(number, place) for place, number in sorted(taken)]
        here = row_lost(bench, where, row)
        if here is None:
            return None
        lost += here
        sets.append(sum(2 ** number for number, place in row))
        rows.append(row)
    return (lost, sets, rows)


def all_plans(bench, numbers):
    """The keys of all plans for these promises."""
    options = []
    for number in numbers:
        options.append([(where, place) for where, told in enumerate(bench.sticks)
                        for place in range(told[2], told[2] + told[3]) if can_take(bench, number, where, place)])
    keys = [plan_key(bench, numbers, spots) for spots in itertools.product(*options)]
    return [key for key in keys if key is not None]


def slow_best(bench, numbers):
    return min(all_plans(bench, numbers), default=None)


def random_pairs(source, place, steps, most):
    pairs = []
    for _ in range(source.randint(0, most)):
        first = source.randint(place, place + steps - 1)
        pairs.append((first, source.randint(first + 1, min(first + 3, place + steps))))
    return pairs


def random_bench(source, most_sticks, most_steps, most_promises, most_length):
    sticks, promises = [], []
    idents = source.sample(range(1, 50), 10)
    for n in range(source.randint(0 if source.random() < 0.1 else 1, most_sticks)):
        place, steps = source.randint(0, 6), source.randint(1, most_steps)
        kept = random_pairs(source, place, steps, source.choice((0, 0, 1)))
        spoilt = random_pairs(source, place, steps, source.choice((0, 0, 1)))
        sticks.append((idents[n], source.choice((1, 1, 2, 3, 4)), place, steps, kept, spoilt))
    for n in range(source.randint(0 if source.random() < 0.1 else 1, most_promises)):
        low = source.choice((0, 0, 0, source.randint(0, 8)))
        high = source.choice((30, 30, low + source.randint(1, 12)))
        lanes = source.choice((15, 15, 15, source.randint(1, 15)))
        worth = source.choice((0, 1, 1, 2, 3, 1000))
        promises.append((idents[n + 5], lanes, source.randint(1, most_length), low, high, worth))
    return SmallBench(source.choice((1, 1, 2, 3)), source.choice((0, 1, 2, 3, 4, 6)), sticks, promises)
