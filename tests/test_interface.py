"""The names, arguments and kinds of values of the interface."""

import importlib
import inspect
import unittest

from formsalike.base64 import Base64
from formsalike.events import Builder
from formsalike.utf8 import Utf8

FUNCTIONS = {
    "decimals": {"normal": "(m, e)", "from_binary": "(m, two)", "whole": "(m, e, most)", "layout": "(m, e)"},
    "floats": {"half": "(bits)", "single": "(bits)", "double": "(bits)"},
    "values": {"number": "(m, e=0)", "text": "(string)", "list_of": "(items)", "map_of": "(entries)",
               "walk": "(value)", "depth": "(value)"},
    "checks": {"is_value": "(thing)"},
    "utf8": {"encode": "(points)", "decode": "(octets)"},
    "base64": {"encode64": "(octets)"},
    "orders": {"units": "(points)", "by_units": "(entries)", "by_points": "(entries)"},
    "events": {"events_of": "(value)"},
    "jsontext.read": {"read_json": "(octets)"},
    "cbortree.read": {"read_cbor": "(octets)"},
    "bertree.read": {"read_ber": "(octets)"},
    "bencoded.read": {"read_bencode": "(octets)"},
    "sexprs.read": {"read_sexp": "(octets)"},
    "jsontext.write": {"write_json": "(value)", "json_lacks": "(value)"},
    "cbortree.write": {"write_cbor": "(value)", "cbor_lacks": "(value)"},
    "bertree.write": {"write_ber": "(value)"},
    "bencoded.write": {"write_bencode": "(value)", "bencode_lacks": "(value)"},
    "sexprs.write": {"write_sexp": "(value)", "sexp_lacks": "(value)"},
    "forms": {"read": "(form, octets)", "write": "(form, value)", "lacks": "(form, value)", "scanner": "(form)",
              "loose": "(form)", "is_canonical": "(form, octets)"},
    "streams": {"read_pieces": "(form, pieces)", "carry": "(source, goal, pieces)"},
    "chains": {"convert": "(source, goal, octets)", "through": "(value, names)"},
}

CLASSES = {
    "errors": {"AlikeError": {"__init__": "(self, what=None)"}, "Unreadable": {}, "Unwritable": {}, "Doubled": {}},
    "utf8": {"Utf8": {"take": "(self, octet)"}},
    "base64": {"Base64": {"take": "(self, octet)"}},
    "events": {"Builder": {"take": "(self, event)"}},
    "jsontext.scan": {"JsonScanner": {"step": "(self, octet)", "end": "(self)"}},
    "cbortree.scan": {"CborScanner": {"step": "(self, octet)", "end": "(self)"}},
    "bertree.scan": {"BerScanner": {"step": "(self, octet)", "end": "(self)"}},
    "bencoded.scan": {"BencodeScanner": {"step": "(self, octet)", "end": "(self)"}},
    "sexprs.scan": {"SexpScanner": {"step": "(self, octet)", "end": "(self)"}},
    "jsontext.loose": {"JsonLoose": {"take": "(self, event)"}},
    "cbortree.loose": {"CborLoose": {"take": "(self, event)"}},
    "bertree.loose": {"BerLoose": {"take": "(self, event)"}},
    "bencoded.loose": {"BencodeLoose": {"take": "(self, event)"}},
    "sexprs.loose": {"SexpLoose": {"take": "(self, event)"}},
    "streams": {"Stream": {"feed": "(self, octets)", "finish": "(self)"}},
}

PROPERTIES = [(Utf8, "is_open"), (Base64, "is_whole")]


def module_of(name):
    return importlib.import_module("formsalike." + name)


class InterfaceTest(unittest.TestCase):
    def test_functions(self):
        for name, functions in FUNCTIONS.items():
            module = module_of(name)
            for word, signature in functions.items():
                function = getattr(module, word)
                self.assertEqual(function.__module__, module.__name__)
                self.assertEqual(str(inspect.signature(function)), signature, word)

    def test_classes(self):
        for name, classes in CLASSES.items():
            module = module_of(name)
            for word, methods in classes.items():
                made = getattr(module, word)
                self.assertEqual(made.__module__, module.__name__)
                for method, signature in methods.items():
                    self.assertIn(method, vars(made))
                    self.assertEqual(str(inspect.signature(vars(made)[method])), signature, word)
                if name != "errors":
                    self.assertEqual(str(inspect.signature(made)), "(form)" if word == "Stream" else "()")

    def test_properties(self):
        for made, word in PROPERTIES:
            self.assertIsInstance(vars(made)[word], property)
            self.assertIsInstance(getattr(made(), word), bool)

    def test_attributes_of_new_objects(self):
        self.assertEqual(Utf8().points, [])
        self.assertEqual(Base64().octets, [])
        self.assertIs(Builder().is_done, False)
        self.assertIsNone(Builder().value)

    def test_walk_is_a_generator(self):
        self.assertTrue(inspect.isgeneratorfunction(module_of("values").walk))


if __name__ == "__main__":
    unittest.main()
