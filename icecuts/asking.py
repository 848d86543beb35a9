"""The calls that ask and change nothing."""

from icecuts.checks import find_wrong, lost_by, rests_by_stick
from icecuts.gaps import takeable_places
from icecuts.parts import find_number
from icecuts.plans import PlanTable, best_plan, clashing_set, least_lost, least_lost_from, numbers_of
from icecuts.plans import richest_set, worth_of
from icecuts.readings import read_plan
from icecuts.refusals import BAD_PLACES, NO_PROMISE, NO_STICK, TWICE
from icecuts.rows import row_table
from icecuts.state import find_stick
from icecuts.texts import plan_bytes


def call_sticks(bench, given):
    told = [0]
    for stick in bench.sticks:
        told.extend([stick.ident, stick.lane, stick.begin, stick.end, len(stick.kept), len(stick.spoilt)])
    return told


def call_promises(bench, given):
    told = [0]
    for promise in bench.promises:
        told.extend([promise.ident, promise.lanes, promise.length, promise.begin, promise.end, promise.worth])
    return told


def plan_table(bench):
    return PlanTable(bench.sticks, bench.promises, bench.saw)


def call_best(bench, given):
    table = plan_table(bench)
    lost = least_lost(table, table.everything)
    if lost is None:
        return [0, 0]
    told = [0, 1, lost]
    spots = spots_by_number(bench, best_plan(table, table.everything))
    for number in sorted(spots):
        told.extend(spots[number])
    return told


# For each promise taken by the plan: the stick, the place.
def spots_by_number(bench, plan):
    spots = {}
    for stick, row in zip(bench.sticks, plan):
        for number, place in row:
            spots[number] = [stick.ident, place]
    return spots


def call_plan(bench, given):
    table = plan_table(bench)
    if least_lost(table, table.everything) is None:
        return [0, 0]
    return [0, 1] + plan_bytes(bench.sticks, bench.promises, best_plan(table, table.everything))


def call_least(bench, given):
    numbers = [find_number(bench.promises, ident) for ident in given]
    if None in numbers:
        return [NO_PROMISE]
    if len(set(numbers)) < len(numbers):
        return [TWICE]
    chosen = sum([1 << number for number in numbers])
    return loss_answer(least_lost(plan_table(bench), chosen))


def loss_answer(lost):
    if lost is None:
        return [0, 0]
    return [0, 1, lost]


def call_clash(bench, given):
    return [0] + [bench.promises[number].ident for number in numbers_of(clashing_set(plan_table(bench)))]


def call_most(bench, given):
    table = plan_table(bench)
    chosen = richest_set(table, bench.promises)
    told = [0, worth_of(bench.promises, chosen), least_lost(table, chosen)]
    spots = spots_by_number(bench, best_plan(table, chosen))
    for number in numbers_of(chosen):
        told.append(bench.promises[number].ident)
        told.extend(spots[number])
    return told


def call_check(bench, given):
    reading = read_plan(given)
    trouble = reading_trouble(bench, reading)
    if trouble is not None:
        return trouble
    return [0, 1, len(reading.takings), lost_by(bench.sticks, bench.promises, bench.saw, reading.takings)]


# What is answered for a text that is at fault or whose takings are wrong.
def reading_trouble(bench, reading):
    if reading.fault is not None:
        return [0, 0] + list(reading.fault)
    wrong = find_wrong(bench.sticks, bench.promises, bench.saw, reading.takings)
    if wrong is not None:
        return [0, 2] + list(wrong)
    return None


def call_can(bench, given):
    number = find_number(bench.promises, given[0])
    stick = find_stick(bench, given[1])
    if number is None:
        return [NO_PROMISE]
    if stick is None:
        return [NO_STICK]
    return [0] + takeable_places(stick, bench.promises[number])


def call_rests(bench, given):
    reading = read_plan(given)
    trouble = reading_trouble(bench, reading)
    if trouble is not None:
        return trouble
    told = [0, 1]
    rests_told = rests_by_stick(bench.sticks, bench.promises, bench.saw, reading.takings)
    for stick, rests in zip(bench.sticks, rests_told):
        for rest in rests:
            told.extend([stick.ident, rest[0], rest[1]])
    return told


# Where losses are told one behind another, each has two numbers.
def loss_pair(lost):
    if lost is None:
        return [0, 0]
    return [1, lost]


def call_where(bench, given):
    number = find_number(bench.promises, given[0])
    if number is None:
        return [NO_PROMISE]
    table = plan_table(bench)
    told = [0]
    for stick_number in range(len(bench.sticks)):
        told.extend(loss_pair(least_lost_from(table, number, stick_number)))
    return told


# A row stays right without one of its takings: where all promises can be kept,
# all but one can be kept, too.
def call_spares(bench, given):
    number = find_number(bench.promises, given[0])
    if number is None:
        return [NO_PROMISE]
    table = plan_table(bench)
    lost = least_lost(table, table.everything)
    if lost is None:
        return [0, 0]
    return [0, 1, lost - least_lost(table, table.everything - (1 << number))]


def call_table(bench, given):
    table = plan_table(bench)
    losses = table.losses[min(given[0], len(bench.sticks))]
    told = [0]
    for chosen in range(table.everything + 1):
        told.extend(loss_pair(losses.get(chosen)))
    return told


def call_behind(bench, given):
    stick = find_stick(bench, given[0])
    place = given[1]
    chosen = given[2]
    if stick is None:
        return [NO_STICK]
    if not stick.begin <= place <= stick.end:
        return [BAD_PLACES]
    if chosen >= 1 << len(bench.promises):
        return [NO_PROMISE]
    return loss_answer(row_table(stick, bench.promises, bench.saw).behind[chosen].get(place))


ASKINGS = {
    6: call_sticks,
    7: call_promises,
    8: call_best,
    9: call_plan,
    10: call_least,
    11: call_clash,
    12: call_most,
    13: call_check,
    14: call_can,
    15: call_rests,
    16: call_where,
    17: call_spares,
    20: call_table,
    21: call_behind,
}


def ask(bench, number, given):
    return ASKINGS[number](bench, given)
