"""Texts that come in pieces."""

from formsalike.forms import loose, read, scanner


class Stream:
    """A text of a form that comes in pieces."""

    def __init__(self, form):
        self._scanner = scanner(form)

    def feed(self, octets):
        """The list of the events that come with the octets of the next piece; raises Unreadable."""
        events = []
        for octet in octets:
            events.extend(self._scanner.step(octet))
        return events

    def finish(self):
        """The list of the events that come with the end of the text; raises Unreadable."""
        return self._scanner.end()


def read_pieces(form, pieces):
    """The value of the text whose pieces are given; raises Unreadable."""
    return read(form, [octet for piece in pieces for octet in piece])


def carry(source, goal, pieces):
    """The octets of the loose writer of the goal, a list for each piece and one for the end of the text."""
    taker = scanner(source)
    writer = loose(goal)
    rows = []
    for piece in pieces:
        octets = []
        # Octet by octet: what the goal lacks is told before an octet that fails behind it in the same piece.
        for octet in piece:
            octets.extend(_written(writer, taker.step(octet)))
        rows.append(octets)
    rows.append(_written(writer, taker.end()))
    return rows


def _written(writer, events):
    """The octets that a loose writer writes for some events."""
    octets = []
    for event in events:
        octets.extend(writer.take(event))
    return octets
