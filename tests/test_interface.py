"""The interface: what stands under which module, and how its arguments are named."""

import importlib
import inspect
import unittest

INTERFACE = {
    "schemas": {"is_name": "(thing)", "Schema": "(kinds, *, choices=None, root)"},
    "schematexts": {"show_schema": "(schema)", "read_schema": "(text)"},
    "things": {
        "Node": "(kind, fields=())", "Case": "(word, content=None)", "told": "(schema, thing)",
        "same": "(schema, one, other)", "copied": "(schema, thing)", "plain": "(schema, of)",
    },
    "turning": {"turned": "(old, new, thing)"},
    "meeting": {"meets": "(old, new)", "keeps": "(old, new)"},
    "streams": {"streamed": "(parts)", "unstreamed": "(data)", "Feeder": "()"},
    "questions": {"asked": "(schema, thing, question)"},
    "library": {"Library": "(editions)"},
    "readers": {"made": "(old, new)", "run_reader": "(steps, data)"},
    "judging": {"judge_meets": "(old, new, paper)", "judge_reader": "(old, new, steps)"},
    "desk": {"Desk": "(editions)"},
}
METHODS = {
    ("schemas", "Schema"): {"check": "(self, thing)"},
    ("things", "Node"): {"put": "(self, name, thing)"},
    ("streams", "Feeder"): {"feed": "(self, data)", "done": "(self)"},
    ("library", "Library"): {
        "grow": "(self, schema, *, must=())", "write": "(self, thing, *, edition, wire='tagged')", "read": "(self, data, *, edition)",
        "mark": "(self, data)", "shelf": "(self, data, *, edition)", "ask": "(self, data, question, *, edition)",
        "meets": "(self, old, new)", "keeps": "(self, old, new)", "reader": "(self, old, new)",
    },
    ("desk", "Desk"): {"say": "(self, text)", "store": "(self, name, texts)", "run": "(self, texts)", "journal": "(self)"},
}


class TestInterface(unittest.TestCase):
    def test_names_and_arguments(self):
        for module, rows in INTERFACE.items():
            found = importlib.import_module(f"thingwires.{module}")
            for name, arguments in rows.items():
                thing = getattr(found, name)
                self.assertEqual(str(inspect.signature(thing)), arguments, name)
                self.assertEqual(thing.__module__, f"thingwires.{module}")

    def test_methods_stand_in_the_class_itself(self):
        for (module, name), rows in METHODS.items():
            found = getattr(importlib.import_module(f"thingwires.{module}"), name)
            for method, arguments in rows.items():
                self.assertEqual(str(inspect.signature(vars(found)[method])), arguments)


if __name__ == "__main__":
    unittest.main()
