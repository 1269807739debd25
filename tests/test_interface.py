import importlib
import inspect
import unittest

ARGUMENTS = {
    "words": {
        "is_width": ["number"], "fits": ["width", "number"], "cut": ["width", "number"],
        "amid": ["old", "new", "choice"],
    },
    "codes": {"told_code": ["m"], "code_of": ["n"], "number_of": ["word"], "tear": ["code"]},
    "terms": {"size_of": ["T"], "vars_in": ["T"], "worth": ["T", "width", "words"]},
}


class InterfaceTest(unittest.TestCase):
    def test_each_function_is_there_with_its_arguments(self):
        for module, functions in ARGUMENTS.items():
            for name, arguments in functions.items():
                with self.subTest(module=module, name=name):
                    function = getattr(importlib.import_module("bellferry." + module), name)
                    self.assertEqual(list(inspect.signature(function).parameters), arguments)
