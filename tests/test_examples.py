"""The examples of the document, word for word, and those of README.md."""

import doctest
import pathlib
import unittest

DATABASES = """
>>> from carrykeys.bases import Database, Schema
>>> schema = Schema((("city", True, ()), ("person", False, (("home", "city"), ("boss", "person")))))
>>> source = Database(schema)
>>> source["city", 4] = (100, ())
>>> source["person", 1] = (7, (4, 2))
>>> source["person", 2] = (8, (4, None))
>>> source.is_closed(), source.next_key("person"), schema.all_columns()
(True, 3, [('person', 'home'), ('person', 'boss')])
"""

RUNS = """
>>> from carrykeys.runs import run
>>> from carrykeys.scripts import Script
>>> target = Database(schema)
>>> target["person", 1] = (9, (None, 1))
>>> script = Script(schema, (("load", "city", "raw", True), ("load", "person", "raw", False), ("patch", "person", "boss")))
>>> outcome = run(script, source, target)
>>> outcome.target().rows("person"), outcome.mapped("person"), outcome.strokes
([(1, (9, (None, 1))), (2, (7, (1, 3))), (3, (8, (1, None)))], [(1, 2), (2, 3)], 5)
"""


class ExamplesTest(unittest.TestCase):
    def assert_holds(self, text):
        # A fence of Markdown would be read as a line of the answer above it.
        text = text.replace("```", "")
        example = doctest.DocTestParser().get_doctest(text, {}, "example", None, 0)
        told = []
        results = doctest.DocTestRunner(verbose=False).run(example, out=told.append)
        self.assertEqual(results.failed, 0, "".join(told))
        self.assertGreater(results.attempted, 0)

    def test_databases(self):
        self.assert_holds(DATABASES)

    def test_runs(self):
        # The schema and the source are those of the example of databases.
        self.assert_holds(DATABASES + RUNS)

    def test_readme(self):
        self.assert_holds((pathlib.Path(__file__).parent.parent / "README.md").read_text())


if __name__ == "__main__":
    unittest.main()
