"""The bench: calls in one list, each answered in its turn."""

from icecuts.asking import ask
from icecuts.changes import change, is_change
from icecuts.forms import in_ranges, split_calls
from icecuts.refusals import NOT_BEGUN, OUT_OF_RANGE
from icecuts.state import Bench

BEGIN = 0


def answer(bench, number, given):
    if not in_ranges(number, given):
        return [OUT_OF_RANGE]
    if number != BEGIN and bench.saw is None:
        return [NOT_BEGUN]
    if is_change(number):
        return change(bench, number, given)
    return ask(bench, number, given)


def answers(calls):
    bench = Bench()
    told = []
    for number, given in split_calls(calls):
        numbers = answer(bench, number, given)
        told.append(len(numbers))
        told.extend(numbers)
    return told
