"""Where a promise can be taken, and what a gap beside takings loses."""


# front and back are 1 where a taking lies on that side of the gap, else 0.
class Gap:
    def __init__(self, first, end, front, back):
        self.first = first
        self.end = end
        self.front = front
        self.back = back


def has_marked(marks, first, end):
    return any([place in marks for place in range(first, end)])


def takeable_places(stick, promise):
    if promise.lanes & (1 << (stick.lane - 1)) == 0:
        return []
    first = max(stick.begin, promise.begin)
    last = min(stick.end, promise.end) - promise.length
    return [place for place in range(first, last + 1) if is_free(stick, place, place + promise.length)]


def is_free(stick, first, end):
    return not has_marked(stick.kept, first, end) and not has_marked(stick.spoilt, first, end)


# None if the gap isn't as told. The narrowest gap has one cut less than it has
# takings beside it: between two takings one cut serves both, and at a stick's
# own end none is needed.
def gap_rest(saw, gap):
    sides = gap.front + gap.back
    steps = gap.end - gap.first
    if steps == saw.width * (sides - 1):
        return (gap.end, gap.end)
    if steps < saw.width * sides:
        return None
    return (gap.first + saw.width * gap.front, gap.end - saw.width * gap.back)


def saws_kept(stick, gap, rest):
    return has_marked(stick.kept, gap.first, rest[0]) or has_marked(stick.kept, rest[1], gap.end)


def rest_loss(stick, saw, rest):
    steps = rest[1] - rest[0]
    if steps >= saw.short or has_marked(stick.kept, rest[0], rest[1]):
        return 0
    return steps


# None if no right row has the gap.
def gap_loss(stick, saw, gap):
    rest = gap_rest(saw, gap)
    if rest is None or saws_kept(stick, gap, rest):
        return None
    return rest[0] - gap.first + gap.end - rest[1] + rest_loss(stick, saw, rest)


# By the place of the taking that ends the gap; only gaps that can be.
def losses_ahead(stick, saw, first, front):
    losses = {}
    for place in range(first, stick.end):
        lost = gap_loss(stick, saw, Gap(first, place, front, 1))
        if lost is not None:
            losses[place] = lost
    return losses


# By the end of the stick's last taking; only gaps that can be.
def losses_at_end(stick, saw):
    losses = {}
    for place in range(stick.begin, stick.end + 1):
        lost = gap_loss(stick, saw, Gap(place, stick.end, 1, 0))
        if lost is not None:
            losses[place] = lost
    return losses


# Takings are told by their first place and their end, by rising places; there
# must be one at least.
def row_gaps(stick, takings):
    gaps = [Gap(stick.begin, takings[0][0], 0, 1)]
    for taking, behind in zip(takings, takings[1:]):
        gaps.append(Gap(taking[1], behind[0], 1, 1))
    gaps.append(Gap(takings[-1][1], stick.end, 1, 0))
    return gaps


# Only for gaps that are as told.
def rests_with_steps(saw, gaps):
    rests = [gap_rest(saw, gap) for gap in gaps]
    return [rest for rest in rests if rest[0] < rest[1]]


# The rests if this is the stick's one taking, or None if that's no right row.
def rests_of_one_taking(stick, promise, saw, place):
    if place not in takeable_places(stick, promise):
        return None
    gaps = row_gaps(stick, [(place, place + promise.length)])
    if None in [gap_loss(stick, saw, gap) for gap in gaps]:
        return None
    return rests_with_steps(saw, gaps)
