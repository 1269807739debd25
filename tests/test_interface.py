import importlib
import inspect
import unittest

ARGUMENTS = {
    "words": {
        "is_width": ["number"], "fits": ["width", "number"], "cut": ["width", "number"],
        "amid": ["old", "new", "choice"],
    },
    "codes": {"told_code": ["m"], "code_of": ["n"], "number_of": ["word"], "tear": ["code"]},
    "terms": {"size_of": ["T"], "vars_in": ["T"], "worth": ["T", "width", "words"]},
    "steps": {
        "wish": ["width", "steps", "number", "words"], "after": ["width", "steps", "number", "words", "word"],
    },
    "worlds": {
        "made": ["width", "islands", "ferries"], "island_of": ["world", "name"], "ferry_of": ["world", "name"],
        "ferries_at": ["world", "name"],
    },
    "plain": {
        "first_stand": ["world"], "round_of": ["world", "stand"], "run_plain": ["world", "n"],
        "chain": ["world", "stand", "name"],
    },
    "signs": {
        "first_sign": ["word"], "shown": ["sign", "word", "moment"], "first_sight": ["word", "stages"],
        "sampled": ["sign", "since", "choice"], "moved": ["sight", "word"], "used": ["sight"],
    },
    "ferries": {"Ferry": ["k", "stages"]},
    "runs": {"Run": ["world"]},
    "bounds": {"stretches": ["world", "names"], "bounds": ["world", "names"], "track": ["world", "n"]},
    "texts": {"written": ["world"], "read": ["text"]},
}

METHODS = {
    ("ferries", "Ferry"): {
        "ring_giver": ["moment", "choice", "word"], "ring_taker": ["moment", "choice", "wished"], "counts": [],
    },
    ("runs", "Run"): {
        "ring": ["name", "choice"], "number": ["name"], "words": ["name"], "steps_done": ["name"], "given": ["name"],
        "taken": ["name"],
    },
}


class InterfaceTest(unittest.TestCase):
    def test_each_function_is_there_with_its_arguments(self):
        for module, functions in ARGUMENTS.items():
            for name, arguments in functions.items():
                with self.subTest(module=module, name=name):
                    function = getattr(importlib.import_module("bellferry." + module), name)
                    self.assertEqual(list(inspect.signature(function).parameters), arguments)

    def test_each_method_is_there_with_its_arguments(self):
        for (module, kind), methods in METHODS.items():
            for name, arguments in methods.items():
                with self.subTest(module=module, kind=kind, name=name):
                    method = getattr(getattr(importlib.import_module("bellferry." + module), kind), name)
                    self.assertEqual(list(inspect.signature(method).parameters)[1:], arguments)

    def test_all_may_be_handed_by_name(self):
        ferry = importlib.import_module("bellferry.ferries").Ferry(k=1, stages=1)
        self.assertEqual(ferry.ring_giver(moment=0, choice=0, word=3), (True, 0))
        self.assertEqual(ferry.ring_taker(moment=1, choice=1, wished=True), (None, 1))
        world = importlib.import_module("bellferry.worlds").made(width=8, islands=[("a", [], [])], ferries=[])
        run = importlib.import_module("bellferry.runs").Run(world=world)
        self.assertEqual(run.ring(name="a", choice=0), ("a", 0, ("done",), []))
        self.assertEqual(run.number(name="a"), 0)
