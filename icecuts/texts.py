"""A plan as text."""


def plan_bytes(sticks, promises, plan):
    lines = []
    for stick, row in zip(sticks, plan):
        for number, place in row:
            lines.append(taking_line(promises[number].ident, stick.ident, place))
    return [ord(sign) for sign in "".join(lines)]


def taking_line(promise_ident, stick_ident, place):
    return f"take {promise_ident} from {stick_ident} at {place};\n"
