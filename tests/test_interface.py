import importlib
import inspect
import unittest

ARGUMENTS = {
    "words": {
        "is_width": ["number"], "fits": ["width", "number"], "cut": ["width", "number"],
        "amid": ["old", "new", "choice"],
    },
    "codes": {"told_code": ["m"], "code_of": ["n"], "number_of": ["word"], "tear": ["code"]},
    "terms": {"size_of": ["T"], "vars_in": ["T"], "worth": ["T", "width", "words"]},
    "steps": {
        "wish": ["width", "steps", "number", "words"], "after": ["width", "steps", "number", "words", "word"],
    },
    "worlds": {
        "made": ["width", "islands", "ferries"], "island_of": ["world", "name"], "ferry_of": ["world", "name"],
        "ferries_at": ["world", "name"],
    },
    "plain": {
        "first_stand": ["world"], "round_of": ["world", "stand"], "run_plain": ["world", "n"],
        "chain": ["world", "stand", "name"],
    },
    "signs": {
        "first_sign": ["word"], "shown": ["sign", "word", "moment"], "first_sight": ["word", "stages"],
        "sampled": ["sign", "since", "choice"], "moved": ["sight", "word"], "used": ["sight"],
    },
}


class InterfaceTest(unittest.TestCase):
    def test_each_function_is_there_with_its_arguments(self):
        for module, functions in ARGUMENTS.items():
            for name, arguments in functions.items():
                with self.subTest(module=module, name=name):
                    function = getattr(importlib.import_module("bellferry." + module), name)
                    self.assertEqual(list(inspect.signature(function).parameters), arguments)
