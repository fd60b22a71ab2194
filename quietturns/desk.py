"""Desks: yards that are played and asked by lines of text."""

from quietturns.errors import BadLine
from quietturns.events import event_of, number_of
from quietturns.journals import read_journal
from quietturns.judging import judged


class Desk:
    """A yard from a journal, and what it answers."""

    def __init__(self, text):
        self.yard = read_journal(text)

    def say(self, line):
        """The answer to a line."""
        if not isinstance(line, str):
            raise BadLine(line)
        event = event_of(line)
        if event is not None:
            number = self.yard.do(event)
            return "ok" if number is None else str(number)
        if line in ANSWERS:
            answer = ANSWERS[line]
            return answer(self.yard)
        word, *rest = line.split(" ")
        packets = [number_of(each) for each in rest]
        if word != "where" or len(packets) != 1 or None in packets:
            raise BadLine(line)
        return " ".join(self.yard[packets[0]])


def say_back(yard):
    """Takes the last event back."""
    yard.back()
    return "ok"


def say_now(yard):
    """How many events can happen now."""
    return str(len(yard.now))


def say_judged(yard):
    """What can befall a packet while routers learn, from the oldest net that one knows, the newest one."""
    return judged(yard.oldest(), yard.net)[0]


def say_told(yard):
    """Whether all have learnt and no packet is under way."""
    return "yes" if yard.told() else "no"


def say_turned(yard):
    """The packets that have turned."""
    return numbers([packet for packet, router in yard.turned])


def say_lost(yard):
    """The packets that are lost."""
    return numbers(list(yard.lost))


def say_arrived(yard):
    """The packets that have arrived."""
    return numbers(list(yard.arrived))


def numbers(packets):
    """The numbers of packets, each once, ascending, or none."""
    return " ".join([str(packet) for packet in sorted(set(packets))]) or "none"


ANSWERS = {"back": say_back, "now": say_now, "judged": say_judged, "told": say_told, "turned": say_turned,
           "lost": say_lost, "arrived": say_arrived}
