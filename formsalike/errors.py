"""The errors that the program raises."""


class AlikeError(ValueError):
    """The base class of all of them; what is the item that the rule names."""

    def __init__(self, what=None):
        self.what = what


class Unreadable(AlikeError):
    """A form refuses octets; what is the place."""


class Unwritable(AlikeError):
    """A form lacks a value; what is the index of the value in preorder."""


class Doubled(AlikeError):
    """A map has a key twice; what is the key."""
