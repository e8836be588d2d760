"""[1], [2] and the interface: the package as a whole."""

import importlib
import inspect
import unittest

from carrykeys import errors
from carrykeys.alike import told_apart
from carrykeys.best import best_script, fewest_steps
from carrykeys.errors import CarryError, Refused
from carrykeys.faults import first_fault, is_right, is_safe, needless
from carrykeys.judge import losses
from carrykeys.runs import Carrier, run
from carrykeys.texts import base_text, read_base, read_schema, read_script, schema_text, script_text
from support import raised

SCHEMA = "city unique\nperson any home>city boss>person"
SOURCE = "city 4 100\ncity 10 200\nperson 1 7 4 2\nperson 2 8 10 -\nperson 5 7 4 1"
TARGET = "city 9 200\nperson 1 7 9 1"
SCRIPT = "kept; load person raw; load city raw match; patch person home; fill person boss"

FUNCTIONS = {
    "runs": {"run": ["script", "source", "target", "stops"]},
    "judge": {"losses": ["script", "source", "target", "stops"]},
    "faults": {"first_fault": ["script", "stopped"], "is_right": ["script"], "is_safe": ["script"], "needless": ["script"]},
    "best": {"best_script": ["schema"], "fewest_steps": ["schema"]},
    "alike": {"told_apart": ["script", "other"]},
    "texts": {
        "schema_text": ["schema"], "script_text": ["script"], "base_text": ["base"],
        "read_schema": ["text"], "read_script": ["schema", "text"], "read_base": ["schema", "text"],
    },
}
CLASSES = {
    "bases": {
        "Schema": ["__init__", "__eq__", "tables", "columns", "target_of", "is_unique", "all_columns"],
        "Database": ["__init__", "__getitem__", "__setitem__", "__contains__", "__len__", "__eq__", "drop", "rows", "schema",
                     "twin", "next_key", "is_closed"],
    },
    "scripts": {
        "Script": ["__init__", "__getitem__", "__len__", "__add__", "__eq__", "steps", "schema", "without", "kept"],
    },
    "runs": {
        "Outcome": ["target", "mapped", "made", "strokes"],
        "Carrier": ["__init__", "go", "again", "target", "mapped", "made", "place", "done", "strokes"],
    },
}
ERRORS = [
    "NoKept", "NoStops", "NotSame", "NotSafe", "NoFlag", "NoStrokes", "NothingBegun", "NoSchema", "NoTable", "NoColumn",
    "Missing", "NoKey", "NoRow", "Taken", "NoStep", "NotClosed", "Refused", "NoText",
]


class InterfaceTest(unittest.TestCase):
    def test_functions(self):
        for name, functions in FUNCTIONS.items():
            module = importlib.import_module("carrykeys." + name)
            for function, parameters in functions.items():
                with self.subTest(function):
                    found = getattr(module, function)
                    self.assertEqual(found.__module__, "carrykeys." + name)
                    self.assertEqual(list(inspect.signature(found).parameters), parameters)

    def test_classes(self):
        for name, classes in CLASSES.items():
            module = importlib.import_module("carrykeys." + name)
            for kind, methods in classes.items():
                with self.subTest(kind):
                    found = getattr(module, kind)
                    self.assertEqual(found.__module__, "carrykeys." + name)
                    self.assertEqual([method for method in methods if method not in vars(found)], [])

    def test_errors(self):
        self.assertEqual(CarryError.__bases__, (ValueError,))
        for name in ERRORS:
            self.assertEqual(getattr(errors, name).__bases__, (CarryError,))
            self.assertEqual(getattr(errors, name).__module__, "carrykeys.errors")


class OverviewTest(unittest.TestCase):
    """[1]"""

    def setUp(self):
        self.schema = read_schema(SCHEMA)
        self.source = read_base(self.schema, SOURCE)
        self.target = read_base(self.schema, TARGET)
        self.script = read_script(self.schema, SCRIPT)

    def test_from_texts_to_a_text(self):
        outcome = run(self.script, self.source, self.target)
        self.assertEqual(base_text(outcome.target()), "city 9 200\ncity 10 100\nperson 1 7 9 1\nperson 2 7 10 3\n"
                         "person 3 8 9 -\nperson 4 7 10 2")
        self.assertEqual(outcome.mapped("city"), [(4, 10), (10, 9)])
        self.assertEqual(read_base(self.schema, base_text(outcome.target())), outcome.target())
        self.assertEqual(losses(self.script, self.source, self.target), [])

    def test_a_reference_to_a_row_that_is_not_mapped_yet(self):
        for missing, cell in [("raw", "2"), ("blank", "-")]:
            script = read_script(self.schema, f"kept; load city raw match; load person {missing}")
            text = base_text(run(script, self.source, self.target).target())
            self.assertIn(f"person 2 7 10 {cell}\n", text)
        script = read_script(self.schema, "kept; load city raw match; load person refuse")
        error = raised(self, Refused, run, script, self.source, self.target)
        self.assertEqual((error.index, error.key, error.why), (1, 1, "missing"))

    def test_a_run_that_is_stopped_and_started_again(self):
        best = best_script(self.schema)
        whole = run(best, self.source, self.target)
        for stop in range(whole.strokes):
            outcome = run(best, self.source, self.target, (stop,))
            self.assertEqual(outcome.target(), whole.target())
            self.assertEqual(outcome.strokes, whole.strokes + stop)
            carrier = Carrier(best, self.source, self.target)
            carrier.go(stop)
            if stop:
                carrier.again()
            carrier.go(1000)
            self.assertEqual(base_text(carrier.target()), base_text(whole.target()))
            self.assertEqual(losses(best, self.source, self.target, (stop,)), [])
        # The script of the texts patches what was patched ahead of the stop once more.
        self.assertTrue(any([losses(self.script, self.source, self.target, (stop,)) for stop in range(20)]))

    def test_for_all_databases(self):
        self.assertIs(is_right(self.script), True)
        self.assertIs(is_safe(self.script), False)
        source, target, stops = first_fault(self.script)
        self.assertNotEqual(losses(self.script, source, target, stops), [])
        again = [read_base(self.schema, base_text(base)) for base in (source, target)]
        self.assertEqual(losses(self.script, again[0], again[1], stops), losses(self.script, source, target, stops))

    def test_the_best_script(self):
        best = best_script(self.schema)
        self.assertEqual((len(best), fewest_steps(self.schema), is_safe(best), needless(best)), (3, 3, True, []))
        self.assertEqual(read_script(self.schema, script_text(best)), best)
        self.assertIsNone(told_apart(best, self.script))
        self.assertEqual(read_schema(schema_text(best.schema())), self.schema)

    def test_what_tells_two_scripts_apart(self):
        other = read_script(self.schema, SCRIPT.replace("patch", "sweep"))
        source, target = told_apart(self.script, other)
        texts = [base_text(run(script, source, target).target()) for script in (self.script, other)]
        self.assertNotEqual(texts[0], texts[1])
        self.assertEqual(read_base(self.schema, base_text(source)), source)
        self.assertEqual(read_base(self.schema, base_text(target)), target)

    def test_nothing_that_is_passed_is_changed(self):
        other = read_script(self.schema, SCRIPT.replace("fill", "sweep"))
        run(self.script, self.source, self.target, (3, 4))
        losses(self.script, self.source, self.target, (3, 4))
        Carrier(self.script, self.source, self.target).go(9)
        told_apart(self.script, other)
        first_fault(self.script)
        best_script(self.schema)
        self.assertEqual([base_text(self.source), base_text(self.target)], [SOURCE, TARGET])
        self.assertEqual([script_text(self.script), schema_text(self.schema)], [SCRIPT, SCHEMA])


if __name__ == "__main__":
    unittest.main()
