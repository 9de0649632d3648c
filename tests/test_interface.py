"""The names, arguments and kinds of values of the interface."""

import importlib
import inspect
import unittest

FUNCTIONS = {
    "decimals": {"normal": "(m, e)", "from_binary": "(m, two)", "whole": "(m, e, most)", "layout": "(m, e)"},
    "floats": {"half": "(bits)", "single": "(bits)", "double": "(bits)"},
    "values": {"number": "(m, e=0)", "text": "(string)", "list_of": "(items)", "map_of": "(entries)",
               "walk": "(value)", "depth": "(value)"},
    "checks": {"is_value": "(thing)"},
}

CLASSES = {
    "errors": {"AlikeError": {"__init__": "(self, what=None)"}, "Unreadable": {}, "Unwritable": {}, "Doubled": {}},
}


def module_of(name):
    return importlib.import_module("formsalike." + name)


class InterfaceTest(unittest.TestCase):
    def test_functions(self):
        for name, functions in FUNCTIONS.items():
            module = module_of(name)
            for word, signature in functions.items():
                function = getattr(module, word)
                self.assertEqual(function.__module__, module.__name__)
                self.assertEqual(str(inspect.signature(function)), signature, word)

    def test_classes(self):
        for name, classes in CLASSES.items():
            module = module_of(name)
            for word, methods in classes.items():
                made = getattr(module, word)
                self.assertEqual(made.__module__, module.__name__)
                for method, signature in methods.items():
                    self.assertIn(method, vars(made))
                    self.assertEqual(str(inspect.signature(vars(made)[method])), signature, word)
                if name != "errors":
                    self.assertEqual(str(inspect.signature(made)), "()")

    def test_walk_is_a_generator(self):
        self.assertTrue(inspect.isgeneratorfunction(module_of("values").walk))


if __name__ == "__main__":
    unittest.main()
