"""Calls by their names, and a list of them answered call by call."""

from icecuts.bench import answers

BEST = [8]
PLAN = [9]
STICKS = [6]
PROMISES = [7]


def begin(w, m):
    return [0, w, m]


def stick(ident, lane, place, steps):
    return [1, ident, lane, place, steps]


def keep(ident, place, other):
    return [2, ident, place, other]


def spoil(ident, place, other):
    return [3, ident, place, other]


def promise(ident, lanes, length, place, other, worth=1):
    return [4, ident, lanes, length, place, other, worth]


def piece(ident, place, end):
    """A promise that can be taken at one place alone, from lane 1."""
    return promise(ident, 1, end - place, place, end)


def withdraw(ident):
    return [5, ident]


def least(*idents):
    return [10, len(idents)] + list(idents)


def run(*calls):
    flat = [number for call in calls for number in call]
    told = answers(flat)
    found = []
    place = 0
    while place < len(told):
        size = told[place]
        found.append(told[place + 1:place + 1 + size])
        place += 1 + size
    if place != len(told) or len(found) != len(calls):
        raise AssertionError(f"{len(calls)} calls, but answered was {told}")
    return found


def last(*calls):
    return run(*calls)[-1]


def text_of(numbers):
    return bytes(numbers).decode("ascii")
