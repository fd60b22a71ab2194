"""Events: their forms, as values and as rows of text."""

from quietturns.values import is_integer_from, is_name

# For each word what stands behind it: r for a router, l for a length, p for a packet.
FORMS = {"set": "rrll", "out": "rr", "learn": "r", "send": "rr", "hop": "pr", "drop": "p"}
OF_A_LINK = ("set", "out")
MOST_DIGITS = 9


def is_event(value):
    """Whether this is an event by its form, with any names as routers."""
    if not isinstance(value, tuple) or not value or not isinstance(value[0], str):
        return False
    form = FORMS.get(value[0])
    if form is None or len(value) != len(form) + 1:
        return False
    if not all([is_part(part, kind) for part, kind in zip(value[1:], form)]):
        return False
    return value[0] not in OF_A_LINK or value[1] < value[2]


def is_part(value, kind):
    """Whether this is a router, a length or a packet."""
    if kind == "r":
        return is_name(value)
    return is_integer_from(value, 1 if kind == "l" else 0)


def routers_in(event):
    """The routers that an event names."""
    return [part for part in event[1:] if isinstance(part, str)]


def row_of(event):
    """The row of an event."""
    return " ".join([str(part) for part in event])


def event_of(row):
    """The event of a row, None if it is none of an event by its form."""
    word, *rest = row.split(" ")
    form = FORMS.get(word)
    if form is None or len(rest) != len(form):
        return None
    parts = [part if kind == "r" else number_of(part) for part, kind in zip(rest, form)]
    event = (word, *parts)
    return event if is_event(event) else None


def number_of(word):
    """The number that a word is, None if it is none: decimal, without leading zeros, of at most 9 digits."""
    if not 1 <= len(word) <= MOST_DIGITS or not all(["0" <= digit <= "9" for digit in word]):
        return None
    return int(word) if word == "0" or word[0] != "0" else None
