"""The calls that change what lies on the bench."""

from icecuts.gaps import rests_of_one_taking
from icecuts.parts import Promise, Saw, Stick, find_number, part_of_stick
from icecuts.refusals import BAD_PLACES, BEGUN, ENDS_TOO_FAR, FULL, NO_PROMISE, NO_RIGHT_ROW, NO_STICK
from icecuts.refusals import PROMISE_KNOWN, STICK_KNOWN
from icecuts.state import find_stick

MOST_STICKS = 5
MOST_PROMISES = 5
LAST_PLACE = 1000


def call_begin(bench, given):
    if bench.saw is not None:
        return [BEGUN]
    bench.saw = Saw(given[0], given[1])
    return [0]


# What stands against one stick more, 0 if nothing does.
def new_stick_refusal(bench, ident):
    if ident in bench.stick_idents:
        return STICK_KNOWN
    if len(bench.sticks) == MOST_STICKS:
        return FULL
    return 0


def call_stick(bench, given):
    ident = given[0]
    end = given[2] + given[3]
    refusal = new_stick_refusal(bench, ident)
    if refusal != 0:
        return [refusal]
    if end > LAST_PLACE:
        return [ENDS_TOO_FAR]
    bench.sticks.append(Stick(ident, given[1], given[2], end))
    bench.stick_idents[ident] = True
    return [0]


def call_keep(bench, given):
    stick = find_stick(bench, given[0])
    refusal = marking_refusal(stick, given[1], given[2])
    if refusal == 0:
        mark_steps(stick.kept, given[1], given[2])
    return [refusal]


def call_spoil(bench, given):
    stick = find_stick(bench, given[0])
    refusal = marking_refusal(stick, given[1], given[2])
    if refusal == 0:
        mark_steps(stick.spoilt, given[1], given[2])
    return [refusal]


def marking_refusal(stick, first, end):
    if stick is None:
        return NO_STICK
    if stick.begin <= first < end <= stick.end:
        return 0
    return BAD_PLACES


def mark_steps(marks, first, end):
    for place in range(first, end):
        marks[place] = True


def call_promise(bench, given):
    ident = given[0]
    if ident in bench.promise_idents:
        return [PROMISE_KNOWN]
    if len(bench.promises) == MOST_PROMISES:
        return [FULL]
    if given[3] >= given[4]:
        return [BAD_PLACES]
    bench.promises.append(Promise(ident, given[1], given[2], given[3], given[4], given[5]))
    bench.promise_idents[ident] = True
    return [0]


def call_withdraw(bench, given):
    number = find_number(bench.promises, given[0])
    if number is None:
        return [NO_PROMISE]
    bench.promises.pop(number)
    return [0]


def call_take(bench, given):
    number = find_number(bench.promises, given[0])
    stick = find_stick(bench, given[1])
    if number is None:
        return [NO_PROMISE]
    if stick is None:
        return [NO_STICK]
    promise = bench.promises[number]
    rests = rests_of_one_taking(stick, promise, bench.saw, given[2])
    if rests is None:
        return [NO_RIGHT_ROW]
    refusal = new_stick_refusal(bench, given[3]) if len(rests) == 2 else 0
    if refusal != 0:
        return [refusal]
    bench.promises.pop(number)
    lay_parts(bench, stick, rests, given[3])
    left = sum([rest[1] - rest[0] for rest in rests])
    return [0, stick.end - stick.begin - promise.length - left, len(rests)]


# The first part keeps the stick's id, so the other id counts as told only if
# there's a second part.
def lay_parts(bench, stick, spans, other):
    parts = []
    for ident, span in zip((stick.ident, other), spans):
        parts.append(part_of_stick(stick, ident, span[0], span[1]))
        bench.stick_idents[ident] = True
    number = find_number(bench.sticks, stick.ident)
    bench.sticks = bench.sticks[:number] + parts + bench.sticks[number + 1:]


def call_crack(bench, given):
    stick = find_stick(bench, given[0])
    place = given[1]
    if stick is None:
        return [NO_STICK]
    if not stick.begin < place < stick.end:
        return [BAD_PLACES]
    refusal = new_stick_refusal(bench, given[2])
    if refusal == 0:
        lay_parts(bench, stick, [(stick.begin, place), (place, stick.end)], given[2])
    return [refusal]


CHANGES = {
    0: call_begin,
    1: call_stick,
    2: call_keep,
    3: call_spoil,
    4: call_promise,
    5: call_withdraw,
    18: call_take,
    19: call_crack,
}


def is_change(number):
    return number in CHANGES


def change(bench, number, given):
    return CHANGES[number](bench, given)
