"""Journals: yards, read from the texts that tell of them."""

from quietturns.errors import BadText, NetError
from quietturns.nets import Net
from quietturns.texts import events_of, net_parts, rows_of
from quietturns.yard import Yard

BEGINNINGS = ("run", "strict")


def read_journal(text):
    """The yard of a journal."""
    rows = rows_of(text)
    begins = beginning(rows)
    routers, links = net_parts(rows[:begins])
    if begins == len(rows):
        raise BadText(begins)
    events = events_of(rows[begins + 1:], begins + 1)
    yard = Yard(Net(routers, links), strict=rows[begins] == "strict")
    for at, event in enumerate(events, start=begins + 1):
        do_row(yard, event, at)
    return yard


def beginning(rows):
    """The index of the first row run or strict, the number of rows without one."""
    return min([at for at, row in enumerate(rows) if row in BEGINNINGS], default=len(rows))


def do_row(yard, event, at):
    """Does the event of the row with this index."""
    try:
        yard.do(event)
    except NetError:
        raise BadText(at) from None
