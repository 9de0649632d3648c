"""Values as rows of events."""

from formsalike.values import list_of, map_of


def events_of(value):
    """The list of the events of a value, the entries of maps ascending."""
    events = []
    _add_events(value, events)
    return events


def _add_events(value, events):
    """Put the events of a value behind those that are there."""
    kind = value[0]
    if kind not in ("list", "map"):
        events.append(("leaf", value))
        return
    events.append(("open", kind))
    if kind == "list":
        for item in value[1]:
            _add_events(item, events)
    else:
        for key, part in value[1]:
            events.append(("key", key))
            _add_events(part, events)
    events.append(("close",))


class Frame:
    """A list or map that is open, and what came of it."""

    def __init__(self, kind):
        self.kind = kind
        self.key = None
        self.inside = []

    def put(self, value):
        """Put an item, or the value of the entry whose key came last."""
        if self.kind == "map":
            self.inside.append((self.key, value))
        else:
            self.inside.append(value)

    def built(self):
        """The value of the list or map."""
        if self.kind == "map":
            return map_of(self.inside)
        return list_of(self.inside)


class Builder:
    """Builds a value from its events."""

    def __init__(self):
        self.is_done = False
        self.value = None
        self._frames = []

    def take(self, event):
        """Take the next event."""
        if event[0] == "open":
            self._frames.append(Frame(event[1]))
        elif event[0] == "key":
            frame = self._frames[-1]
            frame.key = event[1]
        elif event[0] == "leaf":
            self._put(event[1])
        else:
            frame = self._frames.pop()
            self._put(frame.built())

    def _put(self, value):
        """Put a value where it belongs."""
        if self._frames:
            frame = self._frames[-1]
            frame.put(value)
        else:
            self.value = value
            self.is_done = True
