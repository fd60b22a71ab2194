"""Texts: nets and runs, written in rows of words, and read again."""

from quietturns.errors import BadRun, BadText
from quietturns.events import event_of, is_event, number_of, row_of
from quietturns.nets import Net
from quietturns.values import is_name


def show_net(net):
    """The text of a net."""
    rows = [" ".join(("routers",) + net.routers)]
    return "\n".join(rows + [f"link {a} {b} {there} {back}" for a, b, there, back in net.links])


def read_net(text):
    """The net of a text."""
    routers, links = net_parts(rows_of(text))
    return Net(routers, links)


def show_run(run):
    """The text of a tuple of events."""
    if not isinstance(run, tuple):
        raise BadRun(-1)
    for at, event in enumerate(run):
        if not is_event(event):
            raise BadRun(at)
    return "\n".join([row_of(event) for event in run])


def read_run(text):
    """The tuple of the events of a text."""
    rows = rows_of(text)
    return () if text == "" else events_of(rows, 0)


def rows_of(text):
    """The rows of a text."""
    if not isinstance(text, str):
        raise BadText(None)
    return text.split("\n")


def net_parts(rows):
    """The routers and the links of the rows of a net; whether they are a net is not looked at."""
    routers = routers_of(rows[0]) if rows else None
    if routers is None:
        raise BadText(0)
    links = []
    for at, row in enumerate(rows[1:], start=1):
        link = link_of(row)
        if link is None:
            raise BadText(at)
        links.append(link)
    return routers, tuple(links)


def routers_of(row):
    """The names in a row of routers, None if it is none."""
    word, *names = row.split(" ")
    if word != "routers" or not all([is_name(name) for name in names]):
        return None
    return tuple(names)


def link_of(row):
    """The link (a, b, there, back) of a row, None if it is none."""
    words = row.split(" ")
    if len(words) != 5 or words[0] != "link":
        return None
    a, b, there, back = words[1], words[2], number_of(words[3]), number_of(words[4])
    if not is_name(a) or not is_name(b) or there is None or back is None:
        return None
    return (a, b, there, back)


def events_of(rows, first):
    """The tuple of the events of rows, of which the first one has this index in its text."""
    events = []
    for at, row in enumerate(rows, start=first):
        event = event_of(row)
        if event is None:
            raise BadText(at)
        events.append(event)
    return tuple(events)
