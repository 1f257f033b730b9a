"""The interface as the document lists it: names, parameters, defaults, and where they are defined."""

import ast
import importlib
import inspect
import unittest

FUNCTIONS = {
    "worlds": {"done": "world, scene, name, old=()", "told": "world, name, answer"},
    "plans": {"stand": "plan, log"},
    "stage": {"play": "system, start, edition, events"},
    "harms": {
        "happens": "system, harm", "harms": "system", "sound": "system", "story": "system, harm", "meets": "system, harm",
    },
    "calm": {"calm_paper": "system, harm", "calm_holds": "system, harm, value"},
    "gears": {
        "enough": "system, at, gear", "least_gears": "system", "needless": "system", "joints": "system",
        "stops": "system, table", "stopped": "system, table", "least_tables": "system", "with_table": "system, table",
    },
    "mending": {
        "changes": "system", "changed": "system, lot", "hits": "system, harm, story, lot", "mends": "system, wanted",
    },
    "opposites": {
        "pairs": "system, edition, at", "clean": "system, edition, at", "faults": "system, edition, at",
        "bars": "system, edition, at", "clean_paper": "system, edition, at",
        "clean_holds": "system, edition, at, value",
    },
    "pivots": {
        "sure_lines": "system, edition", "backed": "system, edition", "firm": "system, edition",
        "pivots": "system, edition",
    },
    "peels": {
        "layers": "system, edition, scene, stand", "left_paper": "system, edition",
        "left_holds": "system, edition, value", "hidden": "system, edition",
    },
    "editions": {
        "reads": "system", "parting": "system", "mixed": "system", "reading_paper": "system",
        "reading_holds": "system, value", "ahead_lines": "system", "estranged": "system",
    },
    "ideals": {
        "ideal": "system, start, edition, events", "seen_as_one": "system, start, edition, events, others",
    },
    "shown": {
        "shown": "system, start, edition, events", "explained": "system, start, edition, row, log",
        "accused": "system, start, edition, events",
    },
    "memories": {
        "recall": "system, memory, start, edition, events", "late_ages": "system, at, most", "latest": "system, at",
        "least_memory": "system", "nearest": "system", "greatest_memory": "system",
        "age_paper": "system, at, memory", "age_holds": "system, at, memory, value",
    },
    "times": {
        "lateness": "times", "can_stray": "times", "stray": "times", "stray_holds": "times, value",
        "late_entries": "times", "least_lease": "hold, way, drift", "greatest_hold": "lease, way, drift",
        "least_keeping": "times", "memory_under": "system, times", "gears_under": "system, times",
    },
    "crowds": {"crowd": "system", "streets": "system"},
    "companies": {"woven": "company, start, rows", "front": "company, member"},
    "quarrels": {
        "quarrels": "company", "quarrel": "company, member, harm", "alarms": "company", "blame": "company, member, harm",
        "calm_lots": "company", "rough": "company, member", "quiet_paper": "company, member",
        "quiet_holds": "company, member, value",
    },
    "plainthings": {"plain_text": "value", "read_plain": "text"},
    "claims": {"is_claim": "value", "claim_text": "claim", "read_claim": "text"},
    "books": {"holds": "book, at", "failing": "book"},
    "knowledge": {
        "under": "one, other", "known": "book, name", "full_book": "name, system", "gaps": "book, name", "spare": "book",
    },
}
CLASSES = {
    "worlds": {
        "Deed": {"__init__": "self, name, needs=(), sets=(), tells=()", "read": "text", "__eq__": None, "__str__": None},
        "World": {"__init__": "self, cells, deeds", "deed": "self, name", "scenes": "self"},
    },
    "plans": {
        "Plan": {
            "__init__": "self, lines", "read": "text", "__eq__": None, "__str__": None, "__len__": None,
            "deed": "self, at", "opposite": "self, at", "gear": "self, at", "with_gear": "self, at, gear",
        },
    },
    "systems": {
        "System": {
            "__init__": "self, world, editions, starts, street=(), tags=()", "read": "text", "__eq__": None,
            "__str__": None, "with_editions": "self, editions", "with_street": "self, street", "with_tags": "self, tags",
            "with_gears": "self, edition, gears",
        },
    },
    "stage": {"Played": {}},
    "times": {"Times": {"__init__": "self, lease, hold, way, entry, drift=(0, 1)", "__eq__": None}},
    "companies": {"Company": {"__init__": "self, members", "bare": "self", "keyed": "self", "__len__": None, "__eq__": None}},
    "books": {
        "Book": {
            "__init__": "self, systems=(), claims=()", "of_name": "self, name", "with_system": "self, name, system",
            "with_claim": "self, claim", "with_book": "self, other", "without": "self, at", "read": "text", "__len__": None,
            "__eq__": None, "__str__": None,
        },
    },
    "live": {
        "Live": {
            "__init__": "self, system, start, edition=0", "do": "self, event", "several": "self, events", "can": "self",
            "undo": "self", "within": "self, work", "__len__": None, "system": None, "events": None, "played": None,
        },
    },
    "desk": {"Desk": {"__init__": "self", "say": "self, command"}},
}
MODULES = (
    "errors worlds plans systems stage harms calm gears mending opposites pivots peels editions ideals shown memories times "
    "crowds companies quarrels plainthings claims books knowledge live desk"
).split()
ERRORS = {
    "InvalidDeed": "word", "InvalidWorld": "word", "InvalidPlan": "word", "InvalidSystem": "word", "InvalidText": "at",
    "InvalidScene": "", "InvalidEvent": "at", "InvalidLog": "at", "InvalidHarm": "", "InvalidTimes": "word",
    "InvalidCompany": "word", "InvalidBook": "word", "InvalidCommand": "", "Refused": "at", "NoName": "name", "NoLine": "at",
}


def module(name):
    return importlib.import_module("asneverbegun." + name)


def parameters(function):
    return str(inspect.signature(function))[1:-1]


class InterfaceTest(unittest.TestCase):
    def test_functions(self):
        for name, functions in FUNCTIONS.items():
            for word, wanted in functions.items():
                function = getattr(module(name), word)
                self.assertEqual(function.__module__, "asneverbegun." + name)
                self.assertEqual(parameters(function), wanted, word)

    def test_classes(self):
        for name, classes in CLASSES.items():
            for word, methods in classes.items():
                made = getattr(module(name), word)
                self.assertEqual(made.__module__, "asneverbegun." + name)
                for method, wanted in methods.items():
                    self.assertIn(method, vars(made), word)
                    if wanted is not None:
                        self.assertEqual(parameters(getattr(made, method)), wanted, (word, method))

    def test_class_methods(self):
        for name, word in (("worlds", "Deed"), ("plans", "Plan"), ("systems", "System"), ("books", "Book")):
            self.assertIsInstance(vars(getattr(module(name), word))["read"], classmethod)

    def test_properties(self):
        for word in ("system", "events", "played"):
            self.assertIsInstance(vars(module("live").Live)[word], property)

    def test_errors(self):
        for word, wanted in ERRORS.items():
            made = getattr(module("errors"), word)
            self.assertEqual(made.__module__, "asneverbegun.errors")
            self.assertEqual(parameters(made), wanted)
            base = {"NoName": KeyError, "NoLine": IndexError}.get(word, module("errors").WorkError)
            self.assertEqual(made.__bases__, (base,))
        self.assertEqual(module("errors").WorkError.__bases__, (ValueError,))

    def test_each_module_is_there(self):
        for name in MODULES:
            self.assertTrue(module(name).__doc__, name)
        self.assertEqual(set(FUNCTIONS) | set(CLASSES) | {"errors"}, set(MODULES))

    def test_only_a_docstring(self):
        package = importlib.import_module("asneverbegun")
        self.assertTrue(package.__doc__)
        with open(package.__file__, encoding="utf-8") as file:
            self.assertEqual(len(ast.parse(file.read()).body), 1)


if __name__ == "__main__":
    unittest.main()
