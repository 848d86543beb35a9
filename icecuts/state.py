"""All that is there while the calls of one list are answered."""

from icecuts.parts import find_number


# The ids told stay known when what they name is gone.
class Bench:
    def __init__(self):
        self.saw = None
        self.sticks = []
        self.stick_idents = {}
        self.promises = []
        self.promise_idents = {}


def find_stick(bench, ident):
    number = find_number(bench.sticks, ident)
    if number is None:
        return None
    return bench.sticks[number]
