"""Where a promise can be taken, and what a gap beside takings loses."""


def has_marked(marks, first, end):
    return any([place in marks for place in range(first, end)])


def takeable_places(stick, promise):
    if promise.lanes & (1 << (stick.lane - 1)) == 0:
        return []
    first = max(stick.begin, promise.begin)
    last = min(stick.end, promise.end) - promise.length
    return [place for place in range(first, last + 1) if is_free(stick, place, place + promise.length)]


def is_free(stick, first, end):
    return not has_marked(stick.kept, first, end) and not has_marked(stick.spoilt, first, end)


# front and back are 1 where a taking lies on that side of the gap, else 0.
# The narrowest gap has one cut less than it has takings beside it: between
# two takings one cut serves both, and at a stick's own end none is needed.
def gap_rest(saw, first, end, front, back):
    sides = front + back
    steps = end - first
    if steps == saw.width * (sides - 1):
        return (end, end)
    if steps < saw.width * sides:
        return None
    return (first + saw.width * front, end - saw.width * back)


def saws_kept(stick, first, end, rest):
    return has_marked(stick.kept, first, rest[0]) or has_marked(stick.kept, rest[1], end)


def rest_loss(stick, saw, rest):
    steps = rest[1] - rest[0]
    if steps >= saw.short or has_marked(stick.kept, rest[0], rest[1]):
        return 0
    return steps


def gap_loss(stick, saw, first, end, front, back):
    rest = gap_rest(saw, first, end, front, back)
    if rest is None or saws_kept(stick, first, end, rest):
        return None
    return rest[0] - first + end - rest[1] + rest_loss(stick, saw, rest)


# By the place of the taking that ends the gap; only gaps that can be.
def losses_ahead(stick, saw, first, front):
    losses = {}
    for place in range(first, stick.end):
        lost = gap_loss(stick, saw, first, place, front, 1)
        if lost is not None:
            losses[place] = lost
    return losses


# By the end of the stick's last taking; only gaps that can be.
def losses_at_end(stick, saw):
    losses = {}
    for place in range(stick.begin, stick.end + 1):
        lost = gap_loss(stick, saw, place, stick.end, 1, 0)
        if lost is not None:
            losses[place] = lost
    return losses
