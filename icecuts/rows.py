"""The rows of one stick: what each set of promises loses there at least, and its best row."""

from icecuts.gaps import losses_ahead, losses_at_end, takeable_places


# opening and between tell a gap's loss by the place of the taking behind it,
# behind[a set][a place] all that is lost behind a taking that ends there,
# whole[a set] what the best row loses. What can't be has no entry.
class RowTable:
    def __init__(self, stick, promises, saw):
        self.lengths = [promise.length for promise in promises]
        self.places = [takeable_places(stick, promise) for promise in promises]
        self.opening = losses_ahead(stick, saw, stick.begin, 0)
        self.between = {}
        for place in range(stick.begin, stick.end + 1):
            self.between[place] = losses_ahead(stick, saw, place, 1)
        self.behind = [losses_at_end(stick, saw)]
        self.whole = {0: 0}


# Sets go by rising numbers: a set without one of its promises has a lesser one.
def row_table(stick, promises, saw):
    table = RowTable(stick, promises, saw)
    for chosen in range(1, 1 << len(promises)):
        table.behind.append(losses_behind(table, chosen))
        found = next_taking(table, table.opening, chosen)
        if found is not None:
            table.whole[chosen] = found[0]
    return table


def losses_behind(table, chosen):
    losses = {}
    for place in table.between:
        found = next_taking(table, table.between[place], chosen)
        if found is not None:
            losses[place] = found[0]
    return losses


# What's lost, the promise's number, the place: in this order, so that the
# least tuple is the document's own choice among takings that lose alike.
def next_taking(table, gaps, chosen):
    found = []
    for number, length in enumerate(table.lengths):
        if chosen & (1 << number):
            behind = table.behind[chosen - (1 << number)]
            for place in table.places[number]:
                if place in gaps and place + length in behind:
                    found.append((gaps[place] + behind[place + length], number, place))
    return min(found, default=None)


# Only for a set that has a row.
def best_row(table, chosen):
    row = []
    gaps = table.opening
    while chosen:
        found = next_taking(table, gaps, chosen)
        number = found[1]
        place = found[2]
        row.append((number, place))
        chosen -= 1 << number
        gaps = table.between[place + table.lengths[number]]
    return row
