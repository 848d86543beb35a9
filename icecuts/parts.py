"""What lies on the bench: the saw, the sticks and the promises."""


class Saw:
    def __init__(self, width, short):
        self.width = width
        self.short = short


class Stick:
    def __init__(self, ident, lane, begin, end):
        self.ident = ident
        self.lane = lane
        self.begin = begin
        self.end = end
        self.kept = {}
        self.spoilt = {}


class Promise:
    def __init__(self, ident, lanes, length, begin, end, worth):
        self.ident = ident
        self.lanes = lanes
        self.length = length
        self.begin = begin
        self.end = end
        self.worth = worth
