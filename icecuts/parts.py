"""What lies on the bench: the saw, the sticks and the promises."""


class Saw:
    def __init__(self, width, short):
        self.width = width
        self.short = short


class Stick:
    def __init__(self, ident, lane, begin, end):
        self.ident = ident
        self.lane = lane
        self.begin = begin
        self.end = end
        self.kept = {}
        self.spoilt = {}


class Promise:
    def __init__(self, ident, lanes, length, begin, end, worth):
        self.ident = ident
        self.lanes = lanes
        self.length = length
        self.begin = begin
        self.end = end
        self.worth = worth


# Sticks and promises are both numbered from 0 in the order told.
def find_number(things, ident):
    for number, thing in enumerate(things):
        if thing.ident == ident:
            return number
    return None


def part_of_stick(stick, ident, begin, end):
    part = Stick(ident, stick.lane, begin, end)
    part.kept = marks_within(stick.kept, begin, end)
    part.spoilt = marks_within(stick.spoilt, begin, end)
    return part


def marks_within(marks, begin, end):
    found = {}
    for place in marks:
        if begin <= place < end:
            found[place] = True
    return found
