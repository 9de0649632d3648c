"""Values that go from form to form."""

from formsalike.forms import read, write


def convert(source, goal, octets):
    """The canonical octets in the goal of what the source reads; raises Unreadable and Unwritable."""
    return write(goal, read(source, octets))


def through(value, names):
    """The value behind writing and reading it in each of the forms; raises Unwritable."""
    for form in names:
        value = read(form, write(form, value))
    return value
