"""Takings told: what's wrong with them, what they lose and which rests they leave."""

from icecuts.gaps import gap_loss, gap_rest, rests_with_steps, row_gaps, saws_kept, takeable_places
from icecuts.parts import find_number

NO_PROMISE_TOLD = 1
NO_STICK_TOLD = 2
TAKEN_BEFORE = 3
NOT_TAKEABLE = 4
BAD_GAP = 5
KEPT_SAWN = 6


# For each gap there's the count of the taking that is told if the gap is wrong.
class ToldRow:
    def __init__(self, stick, gaps, counts):
        self.stick = stick
        self.gaps = gaps
        self.counts = counts


# The kind and the count of the taking, from 1, or None.
def find_wrong(sticks, promises, saw, takings):
    found = wrong_taking(sticks, promises, takings)
    if found is None:
        found = wrong_gap(told_rows(sticks, promises, takings), saw)
    return found


def wrong_taking(sticks, promises, takings):
    found = []
    before = {}
    for count, taking in enumerate(takings, start=1):
        kind = wrong_kind(sticks, promises, taking, before)
        if kind is not None:
            found.append((kind, count))
        before[taking.promise] = True
    return min(found, default=None)


def wrong_kind(sticks, promises, taking, before):
    number = find_number(promises, taking.promise)
    stick_number = find_number(sticks, taking.stick)
    if number is None:
        return NO_PROMISE_TOLD
    if stick_number is None:
        return NO_STICK_TOLD
    if taking.promise in before:
        return TAKEN_BEFORE
    if taking.place not in takeable_places(sticks[stick_number], promises[number]):
        return NOT_TAKEABLE
    return None


def told_rows(sticks, promises, takings):
    return [told_row(stick, promises, takings) for stick in sticks]


# The count stands ahead of the end: of takings at alike places the one told
# first goes ahead.
def told_row(stick, promises, takings):
    found = []
    for count, taking in enumerate(takings, start=1):
        if taking.stick == stick.ident:
            length = promises[find_number(promises, taking.promise)].length
            found.append((taking.place, count, taking.place + length))
    if found == []:
        return ToldRow(stick, [], [])
    found = sorted(found)
    counts = [count for place, count, end in found]
    return ToldRow(stick, row_gaps(stick, [(place, end) for place, count, end in found]), counts + counts[-1:])


# All sticks' gaps must be as told before what's sawn is looked at.
def wrong_gap(rows, saw):
    for row in rows:
        for gap, count in zip(row.gaps, row.counts):
            if gap_rest(saw, gap) is None:
                return (BAD_GAP, count)
    for row in rows:
        for gap, count in zip(row.gaps, row.counts):
            if saws_kept(row.stick, gap, gap_rest(saw, gap)):
                return (KEPT_SAWN, count)
    return None


# Only for takings with which nothing is wrong.
def lost_by(sticks, promises, saw, takings):
    lost = 0
    for row in told_rows(sticks, promises, takings):
        lost += sum([gap_loss(row.stick, saw, gap) for gap in row.gaps])
    return lost


# For each stick its rests; only for takings with which nothing is wrong.
def rests_by_stick(sticks, promises, saw, takings):
    return [rests_of_row(row, saw) for row in told_rows(sticks, promises, takings)]


def rests_of_row(row, saw):
    if row.gaps == []:
        return [(row.stick.begin, row.stick.end)]
    return rests_with_steps(saw, row.gaps)
