"""[6] and [7]: scripts."""

import unittest

from carrykeys.bases import Database, Schema
from carrykeys.errors import NoKept, NoStep, NotSame
from carrykeys.scripts import Script
from support import FLAGS, TABLES, example_schema, raised, strange

CITY = ("load", "city", "raw", True)
PERSON = ("load", "person", "blank", False)
PATCH = ("patch", "person", "boss")
FILL = ("fill", "person", "home")
SWEEP = ("sweep", "person", "boss")
OTHER = Schema((TABLES[0],))

WRONG_STEPS = [
    (), ("load",), ("load", "city"), ("load", "city", "raw"), ("load", "city", "raw", True, True),
    ["load", "city", "raw", True], ("load", "town", "raw", True), ("load", "home", "raw", True),
    ("load", "city", "keep", True), ("load", "city", "Raw", True), ("load", "city", "", True),
    ("load", "city", None, True), ("load", "city", True, "raw"), ("load", "city", "raw", 1), ("load", "city", "raw", 0),
    ("load", "city", "raw", None), ("load", "city", "raw", "match"), ("Load", "city", "raw", True),
    ("copy", "city", "raw", True), ("patch", "city", "raw", True), ("patch", "person", "boss", True),
    ("patch",), ("patch", "person"), ["patch", "person", "boss"], ("load", "person", "boss"),
    ("patch", "city", "home"), ("patch", "person", "town"), ("patch", "person", "city"), ("patch", "home", "person"),
    ("patch", "boss", "person"), ("patch", "town", "boss"), ("fill", "person", "Boss"), ("sweep", "person", None),
    ("sweep", "city", "boss"), ("fill", "city", "boss"), ("keep", "person", "boss"), ("", "person", "boss"),
    ("sweep", ["person"], "boss"), ("sweep", "person", ["boss"]), (["sweep"], "person", "boss"), ("patch", ("person", "boss")),
    "patch", "abc", "load", ((CITY,),), (CITY,), {"load": 1},
]


class ScriptTest(unittest.TestCase):
    def assert_no_step(self, index, steps, kept=True):
        error = raised(self, NoStep, Script, example_schema(), steps, kept)
        self.assertEqual(error.index, index)
        self.assertIs(error.index.__class__, int)

    def test_every_kind_of_step(self):
        steps = tuple([("load", table, missing, match) for table in ("city", "person")
                       for missing in ("raw", "blank", "refuse") for match in (True, False)])
        script = Script(example_schema(), steps)
        self.assertEqual(script.steps(), steps)
        steps = tuple([(word, "person", column) for word in ("patch", "fill", "sweep") for column in ("home", "boss")])
        script = Script(example_schema(), steps)
        self.assertEqual(script.steps(), steps)
        self.assertEqual([script[at] for at in range(6)], list(steps))

    def test_a_table_and_a_column_with_one_name(self):
        schema = Schema((("load", True, (("load", "load"),)),))
        steps = (("load", "load", "raw", False), ("patch", "load", "load"))
        self.assertEqual(Script(schema, steps).steps(), steps)

    def test_kept(self):
        schema = example_schema()
        self.assertIs(Script(schema, (CITY,)).kept, True)
        self.assertIs(Script(schema, (CITY,), True).kept, True)
        self.assertIs(Script(schema, (CITY,), False).kept, False)
        self.assertIs(Script(kept=False, steps=(CITY,), schema=schema).kept, False)

    def test_no_kept(self):
        for number, kept in strange(0, 1, "kept"):
            with self.subTest(number=number):
                raised(self, NoKept, Script, example_schema(), (CITY,), kept)
                raised(self, NoKept, Script, example_schema(), (), kept)

    def test_steps_that_are_no_tuple(self):
        for number, steps in enumerate([None, True, 0, 1.5, "load", "", [], [CITY], [CITY, PATCH], {}, {CITY: 1}, object()]):
            with self.subTest(number=number):
                self.assert_no_step(0, steps)
                self.assert_no_step(0, steps, None)

    def test_wrong_steps(self):
        for number, step in strange(0, 1, *FLAGS, *WRONG_STEPS):
            with self.subTest(number=number):
                self.assert_no_step(0, (step,))
                self.assert_no_step(0, (step, CITY))
                self.assert_no_step(1, (CITY, step))
                self.assert_no_step(2, (CITY, PATCH, step, step, SWEEP))

    def test_any_value_within_a_step(self):
        for number, value in strange(0, 1):
            with self.subTest(number=number):
                for step in (
                    (value, "city", "raw", True), ("load", value, "raw", True), ("load", "city", value, True),
                    ("load", "city", "raw", value), (value, "person", "boss"), ("patch", value, "boss"),
                    ("fill", "person", value), ("sweep", value, value), (value, value, value, value), (value, value),
                ):
                    self.assert_no_step(1, (CITY, step))

    def test_steps_of_another_schema(self):
        error = raised(self, NoStep, Script, OTHER, (CITY, PERSON))
        self.assertEqual(error.index, 1)
        error = raised(self, NoStep, Script, OTHER, (CITY, CITY, PATCH, PERSON))
        self.assertEqual(error.index, 2)
        self.assertEqual(len(Script(OTHER, (CITY, CITY))), 2)

    def test_the_number_of_steps(self):
        schema = example_schema()
        self.assertEqual(len(Script(schema, ())), 0)
        self.assertEqual(Script(schema, ()).steps(), ())
        script = Script(schema, (PATCH,) * 20)
        self.assertEqual(len(script), 20)
        self.assertEqual(script[19], PATCH)
        self.assert_no_step(20, (PATCH,) * 21)
        self.assert_no_step(20, (PATCH,) * 300)

    def test_the_first_wrong_item_is_told(self):
        self.assert_no_step(20, (PATCH,) * 20 + (None,))
        self.assert_no_step(20, (PATCH,) * 22 + (None,))
        self.assert_no_step(19, (PATCH,) * 19 + (None,) + (PATCH,) * 5)
        self.assert_no_step(3, (PATCH,) * 3 + (None,) + (PATCH,) * 30)

    def test_a_wrong_step_ahead_of_kept(self):
        for kept in (None, 1, "kept", [1]):
            self.assert_no_step(1, (CITY, None), kept)
            self.assert_no_step(20, (CITY,) * 21, kept)

    def test_index(self):
        script = Script(example_schema(), (CITY, PERSON, PATCH))
        self.assertEqual([script[0], script[1], script[2]], [CITY, PERSON, PATCH])
        self.assertIs(script[0].__class__, tuple)

    def test_wrong_indexes(self):
        script = Script(example_schema(), (CITY, PERSON, PATCH))
        empty = Script(example_schema(), ())
        for number, index in strange(3, 4, -3, 10 ** 5000, 0.0, (0,), (0, 1), slice(0, 1), slice(None), *FLAGS):
            with self.subTest(number=number):
                for told in (script, empty):
                    self.assertIs(raised(self, NoStep, lambda: told[index]).index, index)
                    self.assertIs(raised(self, NoStep, told.without, index).index, index)
        self.assertEqual(raised(self, NoStep, lambda: empty[0]).index, 0)
        self.assertEqual(raised(self, NoStep, empty.without, 0).index, 0)
        self.assertEqual(script.steps(), (CITY, PERSON, PATCH))

    def test_steps_and_schema(self):
        schema = example_schema()
        script = Script(schema, (CITY, PERSON))
        self.assertEqual(script.steps(), (CITY, PERSON))
        self.assertIs(script.steps().__class__, tuple)
        self.assertEqual(script.schema(), schema)
        self.assertIsInstance(script.schema(), Schema)
        self.assertEqual(schema, example_schema())

    def test_sum(self):
        one = Script(example_schema(), (CITY, PERSON))
        two = Script(example_schema(), (PATCH, CITY), False)
        self.assertEqual((one + two).steps(), (CITY, PERSON, PATCH, CITY))
        self.assertEqual((two + one).steps(), (PATCH, CITY, CITY, PERSON))
        self.assertIs((one + two).kept, True)
        self.assertIs((two + one).kept, False)
        self.assertEqual((one + two).schema(), example_schema())
        self.assertIsInstance(one + two, Script)

    def test_a_sum_leaves_both_as_they_were(self):
        one = Script(example_schema(), (CITY, PERSON))
        two = Script(example_schema(), (PATCH,), False)
        joined = one + two
        joined = joined + joined
        self.assertEqual(joined.steps(), (CITY, PERSON, PATCH) * 2)
        self.assertEqual(one, Script(example_schema(), (CITY, PERSON)))
        self.assertEqual(two, Script(example_schema(), (PATCH,), False))

    def test_sums_with_no_steps(self):
        empty = Script(example_schema(), ())
        one = Script(example_schema(), (CITY,), False)
        self.assertEqual(empty + empty, empty)
        self.assertEqual(one + empty, one)
        self.assertEqual((empty + one).steps(), (CITY,))
        self.assertIs((empty + one).kept, True)

    def test_sums_of_twenty_steps_and_more(self):
        ten = Script(example_schema(), (CITY,) * 10)
        eleven = Script(example_schema(), (PATCH,) * 11)
        twenty = Script(example_schema(), (PATCH,) * 20)
        one = Script(example_schema(), (FILL,))
        self.assertEqual(len(ten + ten), 20)
        for first, second in ((ten, eleven), (eleven, ten), (twenty, one), (one, twenty), (twenty, twenty)):
            self.assertEqual(raised(self, NoStep, lambda: first + second).index, 20)
        self.assertEqual(len(ten), 10)
        self.assertEqual(len(eleven), 11)

    def test_not_same_ahead_of_too_many(self):
        one = Script(example_schema(), (CITY,) * 15)
        raised(self, NotSame, lambda: one + Script(OTHER, (CITY,)))
        raised(self, NotSame, lambda: Script(OTHER, (CITY,)) + one)
        raised(self, NotSame, lambda: one + Script(OTHER, (CITY,) * 15))
        raised(self, NotSame, lambda: Script(OTHER, ()) + Script(example_schema(), ()))

    def test_without(self):
        script = Script(example_schema(), (CITY, PERSON, PATCH))
        self.assertEqual(script.without(0).steps(), (PERSON, PATCH))
        self.assertEqual(script.without(1).steps(), (CITY, PATCH))
        self.assertEqual(script.without(index=2).steps(), (CITY, PERSON))
        self.assertEqual(script.steps(), (CITY, PERSON, PATCH))
        self.assertEqual(script.without(1), Script(example_schema(), (CITY, PATCH)))
        self.assertEqual(script.without(0).without(0).without(0), Script(example_schema(), ()))

    def test_without_one_of_equal_steps(self):
        script = Script(example_schema(), (CITY, PATCH, CITY))
        self.assertEqual(script.without(2).steps(), (CITY, PATCH))
        self.assertEqual(script.without(0).steps(), (PATCH, CITY))

    def test_without_keeps_kept(self):
        for kept in FLAGS:
            self.assertIs(Script(example_schema(), (CITY, PATCH), kept).without(0).kept, kept)

    def test_equality(self):
        script = Script(example_schema(), (CITY, PATCH))
        same = Script(Schema(TABLES), (("load", "city", "raw", True), ("patch", "person", "boss")), True)
        self.assertTrue(script == same)
        self.assertFalse(script != same)
        for other in (
            Script(example_schema(), (CITY, PATCH), False),
            Script(example_schema(), (PATCH, CITY)),
            Script(example_schema(), (CITY,)),
            Script(example_schema(), (CITY, PATCH, PATCH)),
            Script(example_schema(), (("load", "city", "raw", False), PATCH)),
            Script(example_schema(), (("load", "city", "blank", True), PATCH)),
            Script(example_schema(), (CITY, SWEEP)),
            Script(Schema((("city", False, ()), TABLES[1])), (CITY, PATCH)),
        ):
            self.assertFalse(script == other)
            self.assertTrue(script != other)

    def test_scripts_without_steps_differ_by_their_schemas(self):
        self.assertFalse(Script(example_schema(), ()) == Script(OTHER, ()))
        self.assertTrue(Script(OTHER, ()) == Script(OTHER, ()))

    def test_equal_to_nothing_else(self):
        script = Script(example_schema(), (CITY,))
        others = [(CITY,), [CITY], script.schema(), Database(script.schema()), (script.schema(), (CITY,), True)]
        for number, other in strange(*FLAGS, *others):
            with self.subTest(number=number):
                self.assertIs(script == other, False)
                self.assertIs(script != other, True)


if __name__ == "__main__":
    unittest.main()
