"""[4]: schemas."""

import unittest

from carrykeys.bases import Database, Schema
from carrykeys.errors import NoColumn, NoSchema, NoTable
from carrykeys.scripts import Script
from support import FLAGS, TABLES, example_schema, raised, strange

THREE = (("a", "city"), ("b", "city"), ("c", "person"))


def with_references(references):
    return (("city", True, ()), ("person", False, references))


class SchemaTest(unittest.TestCase):
    def assert_wrong(self, part, tables):
        error = raised(self, NoSchema, Schema, tables)
        self.assertEqual(error.part, part)

    def test_the_example(self):
        schema = example_schema()
        self.assertEqual(schema.tables(), TABLES)
        self.assertIs(schema.tables().__class__, tuple)
        self.assertEqual(schema.columns("city"), ())
        self.assertEqual(schema.columns("person"), ("home", "boss"))
        self.assertEqual(schema.target_of("person", "home"), "city")
        self.assertEqual(schema.target_of("person", "boss"), "person")
        self.assertIs(schema.is_unique("city"), True)
        self.assertIs(schema.is_unique("person"), False)
        self.assertEqual(schema.all_columns(), [("person", "home"), ("person", "boss")])

    def test_arguments_by_name(self):
        schema = Schema(tables=TABLES)
        self.assertEqual(schema.columns(name="person"), ("home", "boss"))
        self.assertEqual(schema.target_of(column="home", name="person"), "city")
        self.assertIs(schema.is_unique(name="city"), True)

    def test_one_table_without_columns(self):
        schema = Schema((("a", False, ()),))
        self.assertEqual(schema.tables(), (("a", False, ()),))
        self.assertEqual(schema.columns("a"), ())
        self.assertEqual(schema.all_columns(), [])

    def test_one_table_that_refers_to_itself(self):
        schema = Schema((("a", True, (("a", "a"),)),))
        self.assertEqual(schema.target_of("a", "a"), "a")
        self.assertEqual(schema.all_columns(), [("a", "a")])

    def test_five_tables_with_three_columns(self):
        names = ("one", "two", "three", "four", "eightlet")
        columns = (("b", "eightlet"), ("a", "one"), ("abcdefgh", "three"))
        tables = tuple([(name, name == "two", columns) for name in names])
        schema = Schema(tables)
        self.assertEqual(schema.tables(), tables)
        for name in names:
            self.assertEqual(schema.columns(name), ("b", "a", "abcdefgh"))
            self.assertEqual(schema.target_of(name, "b"), "eightlet")
            self.assertEqual(schema.target_of(name, "abcdefgh"), "three")
            self.assertIs(schema.is_unique(name), name == "two")
        self.assertEqual(schema.all_columns(), [(name, column) for name in names for column in ("b", "a", "abcdefgh")])

    def test_columns_of_different_tables_may_have_one_name(self):
        schema = Schema((("a", True, (("x", "b"),)), ("b", True, (("x", "a"),))))
        self.assertEqual(schema.target_of("a", "x"), "b")
        self.assertEqual(schema.target_of("b", "x"), "a")

    def test_names_of_all_letters(self):
        for name in ("a", "z", "m", "abcdefgh", "ijklmnop", "qrstuvwx", "yz"):
            schema = Schema(((name, True, ((name, name),)),))
            self.assertEqual(schema.all_columns(), [(name, name)])

    def test_what_is_no_tuple_of_tables(self):
        city = ("city", True, ())
        for tables in (
            (), [], [city], [TABLES], city, ("city",), ((),), (city, ()), (city, None), (city, []),
            (("city", True),), (("city", True, (), ()),), (["city", True, ()],), ("abc",), (city, "abc"), {city: 1},
        ):
            with self.subTest(tables=tables):
                self.assert_wrong("tables", tables)

    def test_any_value(self):
        for number, value in strange(0, 1, *FLAGS):
            with self.subTest(number=number):
                self.assert_wrong("tables", value)
                self.assert_wrong("tables", (value,))
                self.assert_wrong("tables", (("city", True, ()), value))
                self.assert_wrong("tables", (("city", True, value),))
                self.assert_wrong("tables", (("city", True, (value,)),))

    def test_more_than_five_tables(self):
        tables = tuple([(name, True, ()) for name in "abcdef"])
        self.assertEqual(Schema(tables[:5]).tables(), tables[:5])
        self.assert_wrong("tables", tables)
        self.assert_wrong("tables", tuple([("a" * many, True, ()) for many in range(1, 9)]))

    def test_a_table_twice(self):
        self.assert_wrong("tables", (("city", True, ()), ("city", True, ())))
        self.assert_wrong("tables", (("city", True, ()), ("b", True, ()), ("city", False, (("x", "b"),))))

    def test_what_is_no_name(self):
        wrong = ["abcdefghi", "A", "City", "aB", "a1", "1", "a b", " a", "a_", "a-b", "a\n", "\u00e9", "abcdefghij" * 20]
        for number, name in strange(0, 1, *FLAGS, *wrong):
            with self.subTest(number=number):
                self.assert_wrong("tables", ((name, True, ()),))
                self.assert_wrong("tables", (("a", True, ((name, "a"),)),))
                self.assert_wrong("tables", (("a", True, (("x", name),)),))

    def test_what_is_no_flag(self):
        for number, flag in strange(0, 1, "unique"):
            with self.subTest(number=number):
                self.assert_wrong("tables", (("city", flag, ()),))

    def test_what_are_no_references(self):
        for references in (
            [], [("x", "city")], (["x", "city"],), (("x",),), (("x", "city", "city"),), ("x", "city"), ("ab",),
            (("x", "city"), ()), (("x", "city"), None), {}, None, "",
        ):
            with self.subTest(references=references):
                self.assert_wrong("tables", with_references(references))

    def test_four_columns(self):
        self.assertEqual(Schema(with_references(THREE)).columns("person"), ("a", "b", "c"))
        self.assert_wrong("tables", with_references(THREE + (("d", "city"),)))

    def test_a_column_twice(self):
        self.assert_wrong("tables", with_references((("x", "city"), ("x", "city"))))
        self.assert_wrong("tables", with_references((("x", "city"), ("y", "city"), ("x", "person"))))

    def test_a_column_that_refers_to_no_table(self):
        self.assert_wrong("references", with_references((("x", "town"),)))
        self.assert_wrong("references", with_references((("x", "city"), ("y", "x"))))
        self.assert_wrong("references", (("a", True, (("x", "b"),)),))

    def test_references_only_where_nothing_else_is_wrong(self):
        lost = ("a", True, (("x", "town"),))
        self.assert_wrong("references", (lost, ("b", True, ())))
        self.assert_wrong("tables", (lost, ("b", 1, ())))
        self.assert_wrong("tables", (lost, ("a", True, ())))
        self.assert_wrong("tables", (lost, ("B", True, ())))
        self.assert_wrong("tables", [lost])
        self.assert_wrong("tables", (("a", True, (("x", "town"), ("x", "a"))),))

    def test_no_table(self):
        schema = example_schema()
        for number, name in strange(0, 1, "town", "home", "cit", "City", *FLAGS):
            with self.subTest(number=number):
                for call in (schema.columns, schema.is_unique):
                    self.assertIs(raised(self, NoTable, call, name).name, name)
                for column in ("home", "town", None, [1]):
                    self.assertIs(raised(self, NoTable, schema.target_of, name, column).name, name)

    def test_no_column(self):
        schema = example_schema()
        for number, column in strange(0, 1, "town", "city", "person", "Home", *FLAGS):
            with self.subTest(number=number):
                self.assertIs(raised(self, NoColumn, schema.target_of, "person", column).column, column)
        self.assertEqual(raised(self, NoColumn, schema.target_of, "city", "home").column, "home")

    def test_a_changed_list_changes_nothing(self):
        schema = example_schema()
        schema.all_columns().clear()
        listed = schema.all_columns()
        self.assertEqual(listed, [("person", "home"), ("person", "boss")])
        listed.append(("city", "home"))
        self.assertEqual(schema.all_columns(), [("person", "home"), ("person", "boss")])
        self.assertEqual(schema, example_schema())

    def test_equality(self):
        schema = example_schema()
        self.assertTrue(schema == Schema(TABLES))
        self.assertFalse(schema != Schema(TABLES))
        for tables in (
            TABLES[:1],
            (TABLES[1], TABLES[0]),
            (("city", False, ()), TABLES[1]),
            with_references((("boss", "person"), ("home", "city"))),
            with_references((("home", "city"),)),
            with_references((("home", "person"), ("boss", "person"))),
            with_references((("house", "city"), ("boss", "person"))),
        ):
            with self.subTest(tables=tables):
                self.assertFalse(schema == Schema(tables))
                self.assertTrue(schema != Schema(tables))

    def test_equal_to_nothing_else(self):
        schema = example_schema()
        others = [TABLES, list(TABLES), Database(schema), Script(schema, ())]
        for number, other in strange(0, 1, *FLAGS, *others):
            with self.subTest(number=number):
                self.assertIs(schema == other, False)
                self.assertIs(schema != other, True)


if __name__ == "__main__":
    unittest.main()
