"""What the tests over all forms have in common."""

import random

from formsalike.bencoded.loose import BencodeLoose
from formsalike.bencoded.read import read_bencode
from formsalike.bencoded.scan import BencodeScanner
from formsalike.bencoded.write import bencode_lacks, write_bencode
from formsalike.bertree.loose import BerLoose
from formsalike.bertree.read import read_ber
from formsalike.bertree.scan import BerScanner
from formsalike.bertree.write import write_ber
from formsalike.cbortree.loose import CborLoose
from formsalike.cbortree.read import read_cbor
from formsalike.cbortree.scan import CborScanner
from formsalike.cbortree.write import cbor_lacks, write_cbor
from formsalike.errors import Unreadable, Unwritable
from formsalike.jsontext.loose import JsonLoose
from formsalike.jsontext.read import read_json
from formsalike.jsontext.scan import JsonScanner
from formsalike.jsontext.write import json_lacks, write_json
from formsalike.sexprs.loose import SexpLoose
from formsalike.sexprs.read import read_sexp
from formsalike.sexprs.scan import SexpScanner
from formsalike.sexprs.write import sexp_lacks, write_sexp
from tests import bencodeoracle, beroracle, cbororacle, jsonoracle, samples, sexporacle
from tests.writeoracles import ORACLES

NAMES = ("json", "cbor", "ber", "bencode", "sexp")

# The functions and classes that the forms have of their own.
READERS = dict(zip(NAMES, (read_json, read_cbor, read_ber, read_bencode, read_sexp)))
WRITERS = dict(zip(NAMES, (write_json, write_cbor, write_ber, write_bencode, write_sexp)))
LACKS = dict(zip(NAMES, (json_lacks, cbor_lacks, lambda value: None, bencode_lacks, sexp_lacks)))
SCANNERS = dict(zip(NAMES, (JsonScanner, CborScanner, BerScanner, BencodeScanner, SexpScanner)))
LOOSE = dict(zip(NAMES, (JsonLoose, CborLoose, BerLoose, BencodeLoose, SexpLoose)))
SCAN_ORACLES = dict(zip(NAMES, (jsonoracle, cbororacle, beroracle, bencodeoracle, sexporacle)))

# The octets that make faults.
POOLS = dict(zip(NAMES, (
    b'"\\{}[]:,0019-+.eEuddDcCnt \n\x00\x80\xbf\xe0\xed\xf0',
    b"\x00\x17\x18\x19\x20\x40\x41\x5f\x60\x61\x7f\x80\x81\x9f\xa0\xa1\xbf\xc2\xc3\xc4\x82\xf4\xf6\xf9\xfa\xff\x1c",
    b"\x00\x01\x02\x04\x05\x09\x0c\x24\x2c\x30\x31\x7f\x80\x81\x82\xff.E-+ 13",
    b"iiellddd00123:-e\x80\xc3\xff",
    b"(())||##\"\"\\ \n0123:aAzf=+/xn-\xff")))


def outcome(function, *args):
    """What a call gives: the pair of "value" and the result, or of "place" or "index" and that of the error."""
    try:
        return ("value", function(*args))
    except Unreadable as error:
        return ("place", error.what)
    except Unwritable as error:
        return ("index", error.what)


def texts(form, seed, many):
    """Texts of values that the form has: canonical ones, loosely written ones, others, and spoilt ones."""
    chance = random.Random(seed)
    found = []
    for value in samples.random_values(seed, many, form):
        written = [ORACLES[form].canonical(value), SCAN_ORACLES[form].random_text(value, chance),
                   b"".join(octets for _, octets in ORACLES[form].pairs(value, chance))]
        found.extend(written)
        for octets in written:
            found.append(samples.spoiled(octets, chance, POOLS[form]))
    return found


def cut(octets, chance):
    """The octets cut into pieces at random, lists and tuples, empty ones among them."""
    pieces = []
    at = 0
    while at < len(octets) or chance.random() < 0.2:
        many = chance.choice([0, 1, 1, 2, 3, 7, 20])
        pieces.append(chance.choice([list, tuple])(octets[at:at + many]))
        at += many
    return pieces


def in_width(octets, width):
    """The octets cut into pieces of one width."""
    return [list(octets[at:at + width]) for at in range(0, len(octets), width)]


def ways_to_cut(octets, chance):
    """Several ways to cut the octets: none at all if there are none, one by one, whole, at random."""
    return [in_width(octets, 1), [list(octets)], [(), tuple(octets), []], cut(octets, chance), cut(octets, chance)]


def value_by(builder, events):
    for event in events:
        builder.take(event)
    return builder.value


def carried(source, goal, octets):
    """What carrying gives for each octet and for the end, or the first error, as point 9.5 tells it."""
    found, place = SCAN_ORACLES[source].scan(octets)
    writer = LOOSE[goal]()
    rows = []
    for events in found:
        row = []
        for event in events:
            try:
                row.extend(writer.take(event))
            except Unwritable as error:
                return ("index", error.what)
        rows.append(row)
    return ("value", rows) if place is None else ("place", place)


def grouped(rows, pieces):
    """What was carried for each octet, as it is told for pieces."""
    found, at = [], 0
    for piece in pieces:
        found.append([octet for row in rows[at:at + len(piece)] for octet in row])
        at += len(piece)
    return found + [rows[at]]
