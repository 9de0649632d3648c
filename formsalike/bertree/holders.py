"""The elements of BER that hold elements, while they are open."""

# What is wanted first in such an element, by its kind.
FIRST_WANTED = {"list": "value", "map": "entry", "entry": "key", "string": "segment"}


class Holder:
    """A list, a map, an entry, or a string in segments."""

    def __init__(self, kind, ends_at, limit, string):
        self.kind = kind
        self.wanted = FIRST_WANTED[kind]
        # The place behind its contents, None if two zeros end them; and the one behind the innermost definite ones.
        self.ends_at = ends_at
        self.limit = limit
        # What collects the segments, None if it holds none.
        self.string = string

    def go_on(self):
        """Want what stands behind an element."""
        if self.kind == "entry":
            self.wanted = "value" if self.wanted == "key" else "nothing"

    def may_end(self):
        """Whether the contents may end where an element could begin."""
        return self.kind != "entry" or self.wanted == "nothing"
