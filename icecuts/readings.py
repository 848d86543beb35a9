"""A plan's text read: the takings it tells, or its first fault."""

NO_TOKEN = 1
MISPLACED = 2
TOO_GREAT = 3

MOST_NUMBER = 1000000000

BLANK = 0
WORD = 1
NUMBER = 2
SIGN = 3

# The tokens of one taking; where a number stands the text is empty.
FORM = ("take", "", "from", "", "at", "", ";")


# promise and stick are ids.
class Taking:
    def __init__(self, promise, stick, place):
        self.promise = promise
        self.stick = stick
        self.place = place


# fault is None or its kind and its place.
class Reading:
    def __init__(self, takings, fault):
        self.takings = takings
        self.fault = fault


class Token:
    def __init__(self, kind, first, end):
        self.kind = kind
        self.first = first
        self.end = end


def kind_of(byte):
    if byte == ord(" ") or byte == ord("\n"):
        return BLANK
    if ord("a") <= byte <= ord("z"):
        return WORD
    if ord("0") <= byte <= ord("9"):
        return NUMBER
    if byte == ord(";"):
        return SIGN
    return None


def split_tokens(kinds):
    tokens = []
    place = 0
    while place < len(kinds):
        end = token_end(kinds, place)
        if kinds[place] != BLANK:
            tokens.append(Token(kinds[place], place, end))
        place = end
    return tokens


# Signs stand for themselves; words and numbers go on as far as they can.
def token_end(kinds, first):
    end = first + 1
    while kinds[first] != SIGN and end < len(kinds) and kinds[end] == kinds[first]:
        end += 1
    return end


def number_value(text, token):
    value = 0
    for byte in text[token.first:token.end]:
        value = value * 10 + byte - ord("0")
    return value


def can_stand(text, token, expected):
    if expected == "":
        return token.kind == NUMBER
    return text[token.first:token.end] == [ord(sign) for sign in expected]


def first_fault(text, tokens):
    for count, token in enumerate(tokens):
        if not can_stand(text, token, FORM[count % len(FORM)]):
            return (MISPLACED, token.first)
        if token.kind == NUMBER and number_value(text, token) > MOST_NUMBER:
            return (TOO_GREAT, token.first)
    if len(tokens) % len(FORM) != 0:
        return (MISPLACED, len(text))
    return None


def read_plan(text):
    kinds = [kind_of(byte) for byte in text]
    if None in kinds:
        return Reading([], (NO_TOKEN, kinds.index(None)))
    tokens = split_tokens(kinds)
    fault = first_fault(text, tokens)
    if fault is not None:
        return Reading([], fault)
    return Reading(takings_of([number_value(text, token) for token in tokens if token.kind == NUMBER]), None)


def takings_of(values):
    return [Taking(values[at], values[at + 1], values[at + 2]) for at in range(0, len(values), 3)]
