"""The bench: calls in one list, each answered in its turn."""

from icecuts.parts import Promise, Saw, Stick
from icecuts.plans import PlanTable, best_plan, least_lost
from icecuts.texts import plan_bytes

OUT_OF_RANGE = -1
NOT_BEGUN = -2
NO_STICK = -3
NO_PROMISE = -4
BEGUN = -5
STICK_KNOWN = -6
FULL = -7
ENDS_TOO_FAR = -8
BAD_PLACES = -9
PROMISE_KNOWN = -10
TWICE = -11

MOST_STICKS = 5
MOST_PROMISES = 5
LAST_PLACE = 1000

# For each call the least and the greatest value of each plain argument.
PLAIN = {
    0: ((1, 5), (0, 20)),
    1: ((1, 1000000000), (1, 4), (0, 1000), (1, 20)),
    2: ((1, 1000000000), (0, 1000), (0, 1000)),
    3: ((1, 1000000000), (0, 1000), (0, 1000)),
    4: ((1, 1000000000), (1, 15), (1, 20), (0, 1000), (0, 1000), (0, 1000)),
    5: ((1, 1000000000),),
    6: (),
    7: (),
    8: (),
    9: (),
}

# For each call with a list the range of the list's numbers.
LISTED = {
    10: (1, 1000000000),
}


# The ids told stay known when what they name is gone.
class Bench:
    def __init__(self):
        self.saw = None
        self.sticks = []
        self.stick_idents = {}
        self.promises = []
        self.promise_idents = {}


def call_begin(bench, given):
    if bench.saw is not None:
        return [BEGUN]
    bench.saw = Saw(given[0], given[1])
    return [0]


def call_stick(bench, given):
    ident = given[0]
    end = given[2] + given[3]
    if ident in bench.stick_idents:
        return [STICK_KNOWN]
    if len(bench.sticks) == MOST_STICKS:
        return [FULL]
    if end > LAST_PLACE:
        return [ENDS_TOO_FAR]
    bench.sticks.append(Stick(ident, given[1], given[2], end))
    bench.stick_idents[ident] = True
    return [0]


def find_stick(bench, ident):
    for stick in bench.sticks:
        if stick.ident == ident:
            return stick
    return None


def call_keep(bench, given):
    stick = find_stick(bench, given[0])
    refusal = marking_refusal(stick, given[1], given[2])
    if refusal == 0:
        mark_steps(stick.kept, given[1], given[2])
    return [refusal]


def call_spoil(bench, given):
    stick = find_stick(bench, given[0])
    refusal = marking_refusal(stick, given[1], given[2])
    if refusal == 0:
        mark_steps(stick.spoilt, given[1], given[2])
    return [refusal]


def marking_refusal(stick, first, end):
    if stick is None:
        return NO_STICK
    if stick.begin <= first < end <= stick.end:
        return 0
    return BAD_PLACES


def mark_steps(marks, first, end):
    for place in range(first, end):
        marks[place] = True


def call_promise(bench, given):
    ident = given[0]
    if ident in bench.promise_idents:
        return [PROMISE_KNOWN]
    if len(bench.promises) == MOST_PROMISES:
        return [FULL]
    if given[3] >= given[4]:
        return [BAD_PLACES]
    bench.promises.append(Promise(ident, given[1], given[2], given[3], given[4], given[5]))
    bench.promise_idents[ident] = True
    return [0]


def find_number(bench, ident):
    for number, promise in enumerate(bench.promises):
        if promise.ident == ident:
            return number
    return None


def call_withdraw(bench, given):
    number = find_number(bench, given[0])
    if number is None:
        return [NO_PROMISE]
    bench.promises.pop(number)
    return [0]


def call_sticks(bench, given):
    told = [0]
    for stick in bench.sticks:
        told.extend([stick.ident, stick.lane, stick.begin, stick.end, len(stick.kept), len(stick.spoilt)])
    return told


def call_promises(bench, given):
    told = [0]
    for promise in bench.promises:
        told.extend([promise.ident, promise.lanes, promise.length, promise.begin, promise.end, promise.worth])
    return told


def plan_table(bench):
    return PlanTable(bench.sticks, bench.promises, bench.saw)


def call_best(bench, given):
    table = plan_table(bench)
    lost = least_lost(table, table.everything)
    if lost is None:
        return [0, 0]
    return [0, 1, lost] + promise_rows(bench, best_plan(table, table.everything))


def promise_rows(bench, plan):
    where = {}
    for stick, row in zip(bench.sticks, plan):
        for number, place in row:
            where[number] = [stick.ident, place]
    told = []
    for number in sorted(where):
        told.extend(where[number])
    return told


def call_plan(bench, given):
    table = plan_table(bench)
    if least_lost(table, table.everything) is None:
        return [0, 0]
    return [0, 1] + plan_bytes(bench.sticks, bench.promises, best_plan(table, table.everything))


def call_least(bench, given):
    numbers = [find_number(bench, ident) for ident in given]
    if None in numbers:
        return [NO_PROMISE]
    if len(set(numbers)) < len(numbers):
        return [TWICE]
    chosen = sum([1 << number for number in numbers])
    lost = least_lost(plan_table(bench), chosen)
    if lost is None:
        return [0, 0]
    return [0, 1, lost]


CALLS = {
    0: call_begin,
    1: call_stick,
    2: call_keep,
    3: call_spoil,
    4: call_promise,
    5: call_withdraw,
    6: call_sticks,
    7: call_promises,
    8: call_best,
    9: call_plan,
    10: call_least,
}


def in_ranges(number, given):
    if number in LISTED:
        ranges = [LISTED[number]] * len(given)
    else:
        ranges = PLAIN[number]
    return all([bounds[0] <= value <= bounds[1] for value, bounds in zip(given, ranges)])


def answer(bench, number, given):
    if not in_ranges(number, given):
        return [OUT_OF_RANGE]
    if number != 0 and bench.saw is None:
        return [NOT_BEGUN]
    return CALLS[number](bench, given)


def split_calls(calls):
    found = []
    place = 0
    while place < len(calls):
        number = calls[place]
        first = place + 1
        if number in LISTED:
            size = calls[first]
            first += 1
        else:
            size = len(PLAIN[number])
        place = first + size
        found.append((number, calls[first:place]))
    return found


def answers(calls):
    bench = Bench()
    told = []
    for number, given in split_calls(calls):
        numbers = answer(bench, number, given)
        told.append(len(numbers))
        told.extend(numbers)
    return told
