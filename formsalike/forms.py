"""The five forms by their names."""

from formsalike.bencoded.loose import BencodeLoose
from formsalike.bencoded.read import read_bencode
from formsalike.bencoded.scan import BencodeScanner
from formsalike.bencoded.write import bencode_lacks, write_bencode
from formsalike.bertree.loose import BerLoose
from formsalike.bertree.read import read_ber
from formsalike.bertree.scan import BerScanner
from formsalike.bertree.write import write_ber
from formsalike.cbortree.loose import CborLoose
from formsalike.cbortree.read import read_cbor
from formsalike.cbortree.scan import CborScanner
from formsalike.cbortree.write import cbor_lacks, write_cbor
from formsalike.errors import Unreadable
from formsalike.jsontext.loose import JsonLoose
from formsalike.jsontext.read import read_json
from formsalike.jsontext.scan import JsonScanner
from formsalike.jsontext.write import json_lacks, write_json
from formsalike.sexprs.loose import SexpLoose
from formsalike.sexprs.read import read_sexp
from formsalike.sexprs.scan import SexpScanner
from formsalike.sexprs.write import sexp_lacks, write_sexp

FORMS = ("json", "cbor", "ber", "bencode", "sexp")


def read(form, octets):
    """The value of the octets of a text; raises Unreadable."""
    if form == "json":
        return read_json(octets)
    if form == "cbor":
        return read_cbor(octets)
    if form == "ber":
        return read_ber(octets)
    if form == "bencode":
        return read_bencode(octets)
    return read_sexp(octets)


def write(form, value):
    """The list of the canonical octets of a value; raises Unwritable."""
    if form == "json":
        return write_json(value)
    if form == "cbor":
        return write_cbor(value)
    if form == "ber":
        return write_ber(value)
    if form == "bencode":
        return write_bencode(value)
    return write_sexp(value)


def lacks(form, value):
    """The index in preorder of the first value that the form lacks, or None."""
    if form == "json":
        return json_lacks(value)
    if form == "cbor":
        return cbor_lacks(value)
    if form == "bencode":
        return bencode_lacks(value)
    if form == "sexp":
        return sexp_lacks(value)
    # BER has all values.
    return None


def scanner(form):
    """A new scanner of the form."""
    if form == "json":
        return JsonScanner()
    if form == "cbor":
        return CborScanner()
    if form == "ber":
        return BerScanner()
    if form == "bencode":
        return BencodeScanner()
    return SexpScanner()


def loose(form):
    """A new loose writer of the form."""
    if form == "json":
        return JsonLoose()
    if form == "cbor":
        return CborLoose()
    if form == "ber":
        return BerLoose()
    if form == "bencode":
        return BencodeLoose()
    return SexpLoose()


def is_canonical(form, octets):
    """Whether the octets are read as a value and are its canonical text; raises nothing."""
    try:
        value = read(form, octets)
    except Unreadable:
        return False
    return write(form, value) == list(octets)
