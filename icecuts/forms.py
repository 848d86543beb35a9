"""How calls stand in a list, and the ranges of their arguments."""

# For each call the least and the greatest value of each plain argument.
PLAIN = {
    0: ((1, 5), (0, 20)),
    1: ((1, 1000000000), (1, 4), (0, 1000), (1, 20)),
    2: ((1, 1000000000), (0, 1000), (0, 1000)),
    3: ((1, 1000000000), (0, 1000), (0, 1000)),
    4: ((1, 1000000000), (1, 15), (1, 20), (0, 1000), (0, 1000), (0, 1000)),
    5: ((1, 1000000000),),
    6: (),
    7: (),
    8: (),
    9: (),
    11: (),
    12: (),
    14: ((1, 1000000000), (1, 1000000000)),
    16: ((1, 1000000000),),
    17: ((1, 1000000000),),
    18: ((1, 1000000000), (1, 1000000000), (0, 1000), (1, 1000000000)),
    19: ((1, 1000000000), (0, 1000), (1, 1000000000)),
    20: ((0, 5),),
    21: ((1, 1000000000), (0, 1000), (0, 31)),
}

# For each call with a list the range of the list's numbers.
LISTED = {
    10: (1, 1000000000),
    13: (0, 255),
    15: (0, 255),
}


def in_ranges(number, given):
    if number in LISTED:
        ranges = [LISTED[number]] * len(given)
    else:
        ranges = PLAIN[number]
    return all([bounds[0] <= value <= bounds[1] for value, bounds in zip(given, ranges)])


# Each call's number with its arguments, or with the numbers of its list.
def split_calls(calls):
    found = []
    place = 0
    while place < len(calls):
        number = calls[place]
        first = place + 1
        if number in LISTED:
            size = calls[first]
            first += 1
        else:
            size = len(PLAIN[number])
        place = first + size
        found.append((number, calls[first:place]))
    return found
