"""The interface: names, arguments, defaults, and where each thing is defined."""

import importlib
import inspect
import unittest

FUNCTIONS = {
    "strengths": {
        "check_strength": "(thing)", "lowest": "(top, bottom)", "plus": "(one, other)", "minus": "(one, other)",
        "times": "(one, other)", "over": "(one, other)", "is_less": "(one, other)", "greatest": "(amounts)",
        "total": "(amounts)",
    },
    "canon": {
        "is_whole": "(thing, low=None, high=None)", "compositions": "(total, places)", "check_counts": "(counts)",
        "counts_of_starts": "(starts)", "heads_of": "(counts)", "lit_of": "(counts)", "words_of": "(counts, words)",
        "joined_counts": "(one, other)", "less_counts": "(one, other)", "times_counts": "(counts, times)",
        "least_counts": "(counts)", "starts_of": "(words)",
    },
    "facts": {"facts_of": "(told)", "fits_facts": "(facts, counts)"},
    "datatext": {"data_text": "(data)", "read_data": "(text)"},
}
CLASSES = {
    "facts": {"Facts": ("(most=None, lamps=1, words=1, hearing='sums', stretch=1)", {})},
}
CONSTANTS = {"strengths": {"NONE": (0, 1)}}


def module_of(name):
    return importlib.import_module("headsheard." + name)


class InterfaceTest(unittest.TestCase):
    def test_functions(self):
        for module, functions in FUNCTIONS.items():
            for name, signature in functions.items():
                with self.subTest(module=module, name=name):
                    function = vars(module_of(module))[name]
                    self.assertTrue(inspect.isfunction(function))
                    self.assertEqual(function.__module__, "headsheard." + module)
                    self.assertEqual(str(inspect.signature(function)), signature)

    def test_classes(self):
        for module, classes in CLASSES.items():
            for name, (signature, methods) in classes.items():
                with self.subTest(module=module, name=name):
                    found = vars(module_of(module))[name]
                    self.assertTrue(inspect.isclass(found))
                    self.assertEqual(found.__module__, "headsheard." + module)
                    self.assertEqual(str(inspect.signature(found)), signature)
                    self.assertIn("__eq__", vars(found))
                    for method, told in methods.items():
                        self.assertEqual(str(inspect.signature(vars(found)[method])), told)

    def test_constants(self):
        for module, constants in CONSTANTS.items():
            for name, worth in constants.items():
                with self.subTest(module=module, name=name):
                    self.assertEqual(vars(module_of(module))[name], worth)
