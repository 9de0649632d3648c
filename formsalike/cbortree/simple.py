"""Values of CBOR that a head alone writes."""

from formsalike.cbortree.marks import FALSE_INFO, HALF_INFO, NULL_INFO, SIMPLE, SINGLE_INFO, TRUE_INFO
from formsalike.cbortree.numbers import integer_of
from formsalike.floats import double, half, single
from formsalike.values import FALSE, NULL, TRUE, number


def value_of_head(head):
    """The value that a head of major 0, 1 or 7 writes, None for a float that is no number or an infinity."""
    if head.major != SIMPLE:
        return number(integer_of(head))
    if head.info == FALSE_INFO:
        return FALSE
    if head.info == TRUE_INFO:
        return TRUE
    if head.info == NULL_INFO:
        return NULL
    return _float_of(head)


def _float_of(head):
    """The value of a float, None for infinities and for what is no number."""
    if head.info == HALF_INFO:
        pair = half(head.argument)
    elif head.info == SINGLE_INFO:
        pair = single(head.argument)
    else:
        pair = double(head.argument)
    if pair is None:
        return None
    return ("number", pair[0], pair[1])
