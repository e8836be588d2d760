"""[5]: databases."""

import unittest

from carrykeys.bases import Database, Schema
from carrykeys.errors import CarryError, Missing, NoKey, NoRow, NoTable, Taken
from carrykeys.scripts import Script
from support import FLAGS, TABLES, Agreeing, contents, example_base, example_schema, raised, strange

WIDE = Schema((("a", True, (("x", "b"), ("y", "c"), ("z", "a"))), ("b", True, ()), ("c", False, ())))


def put(base, table, key, row):
    base[table, key] = row


def take(base, table, key):
    return base[table, key]


class DatabaseTest(unittest.TestCase):
    def assert_not_put(self, base, error, table, key, row):
        """Check that a row is not set, that nothing changed, and return the error."""
        before = contents(base)
        caught = raised(self, error, put, base, table, key, row)
        self.assertEqual(contents(base), before)
        return caught

    def test_the_example(self):
        base = example_base()
        self.assertEqual(base["city", 4], (100, ()))
        self.assertEqual(base["person", 1], (7, (4, 2)))
        self.assertEqual(base["person", 2], (8, (4, None)))
        self.assertIs(base.is_closed(), True)
        self.assertEqual(base.next_key("person"), 3)

    def test_a_new_database_has_no_rows(self):
        base = Database(schema=example_schema())
        self.assertEqual(len(base), 0)
        self.assertEqual(base.rows("city"), [])
        self.assertEqual(base.rows("person"), [])
        self.assertIs(base.is_closed(), True)
        self.assertIs(("city", 1) in base, False)
        raised(self, Missing, take, base, "city", 1)

    def test_another_row_in_the_place_of_one(self):
        base = example_base()
        base["person", 1] = (70, (None, 1))
        self.assertEqual(base["person", 1], (70, (None, 1)))
        self.assertEqual(base["person", 2], (8, (4, None)))
        self.assertEqual(len(base), 3)
        base["city", 4] = (101, ())
        self.assertEqual(base.rows("city"), [(4, (101, ()))])

    def test_the_same_key_in_two_tables(self):
        base = example_base()
        base["city", 1] = (7, ())
        self.assertEqual(base["city", 1], (7, ()))
        self.assertEqual(base["person", 1], (7, (4, 2)))

    def test_cells_need_not_lead_to_rows(self):
        base = Database(example_schema())
        base["person", 9] = (0, (10 ** 29 - 1, 9))
        self.assertEqual(base["person", 9], (0, (10 ** 29 - 1, 9)))

    def test_missing_rows(self):
        base = example_base()
        for table, key in (("city", 1), ("city", 5), ("person", 3), ("town", 4), ("home", 1), ("City", 4)):
            with self.subTest(table=table, key=key):
                for call in (take, Database.drop):
                    error = raised(self, Missing, call, base, table, key)
                    self.assertEqual((error.table, error.key), (table, key))
                self.assertIs((table, key) in base, False)

    def test_missing_for_any_values(self):
        base = example_base()
        base["city", 1] = (1, ())
        before = contents(base)
        for number, value in strange(0, 4.0, 10 ** 5000, *FLAGS):
            for table, key in (("city", value), (value, 4), (value, value)):
                with self.subTest(number=number):
                    for call in (take, Database.drop):
                        error = raised(self, Missing, call, base, table, key)
                        self.assertIs(error.table, table)
                        self.assertIs(error.key, key)
                    self.assertIs((table, key) in base, False)
        self.assertEqual(contents(base), before)

    def test_no_table(self):
        base = example_base()
        for number, table in strange(0, 1, "town", "home", "City", *FLAGS):
            with self.subTest(number=number):
                for key in (1, 0, True, None, [1]):
                    for row in ((1, ()), (1, (None, None)), None, [1]):
                        self.assertIs(self.assert_not_put(base, NoTable, table, key, row).name, table)
                self.assertIs(raised(self, NoTable, base.rows, table).name, table)
                self.assertIs(raised(self, NoTable, base.next_key, table).name, table)

    def test_no_key(self):
        base = example_base()
        for number, key in strange(0, 4.0, "4", (4,), *FLAGS):
            with self.subTest(number=number):
                for row in ((1, ()), (100, ()), None, [1], (True, ())):
                    self.assertIs(self.assert_not_put(base, NoKey, "city", key, row).key, key)

    def test_no_row(self):
        base = example_base()
        for table, row in (
            ("city", ()), ("city", (1,)), ("city", (1, (), ())), ("city", [1, ()]), ("city", (1, [])),
            ("city", (1, None)), ("city", (1, (None,))), ("city", (1, 2)), ("city", "ab"), ("city", 1), ("city", ((), 1)),
            ("person", (1, ())), ("person", (1, (None,))), ("person", (1, (None, None, None))),
            ("person", (1, [None, None])), ("person", [1, (None, None)]), ("person", (1, None, None)),
            ("person", (1, (0, None))), ("person", (1, (None, 0))), ("person", (1, (True, None))),
            ("person", (1, (4, False))), ("person", (1, (-4, None))), ("person", (1, (4.0, None))),
            ("person", (-1, (4, None))), ("person", (10 ** 30, (4, None))), ("person", (True, (4, None))),
            ("person", (False, (4, None))), ("person", (1.0, (4, None))), ("person", ("1", (4, None))),
        ):
            for key in (1, 4, 9):
                with self.subTest(table=table, row=row, key=key):
                    error = self.assert_not_put(base, NoRow, table, key, row)
                    self.assertEqual((error.table, error.key), (table, key))

    def test_no_row_for_any_values(self):
        base = example_base()
        for number, value in strange(*FLAGS):
            with self.subTest(number=number):
                for row in (value, (value, ()), (1, value), (1, (value,)), (value, value)):
                    error = self.assert_not_put(base, NoRow, "city", 4, row)
                    self.assertEqual((error.table, error.key), ("city", 4))
                for row in ((value, (None, None)), (1, value), [value]):
                    self.assert_not_put(base, NoRow, "person", 1, row)
                # None is no label, but a right cell.
                if value is not None:
                    for cells in ((value, None), (None, value), (value, value)):
                        self.assert_not_put(base, NoRow, "person", 1, (1, cells))

    def test_least_and_greatest_labels(self):
        base = example_base()
        for label in (0, 1, 10 ** 30 - 1):
            base["city", 4] = (label, ())
            self.assertEqual(base["city", 4], (label, ()))
        for label in (-1, 10 ** 30, 10 ** 30 + 1, 10 ** 5000):
            self.assert_not_put(base, NoRow, "city", 4, (label, ()))
            self.assert_not_put(base, NoRow, "city", 5, (label, ()))

    def test_taken(self):
        base = example_base()
        base["city", 2] = (0, ())
        for key, label in ((1, 100), (5, 100), (2, 100), (4, 0), (9, 0)):
            with self.subTest(key=key, label=label):
                error = self.assert_not_put(base, Taken, "city", key, (label, ()))
                self.assertEqual((error.table, error.label), ("city", label))

    def test_no_row_ahead_of_taken(self):
        base = example_base()
        self.assert_not_put(base, NoRow, "city", 5, (100, (None,)))
        self.assert_not_put(base, NoRow, "city", 5, [100, ()])
        self.assert_not_put(base, NoKey, "city", 0, (100, ()))

    def test_labels_of_other_tables_and_of_tables_that_are_not_unique(self):
        base = example_base()
        base["person", 3] = (7, (None, None))
        base["person", 4] = (100, (None, None))
        base["city", 5] = (7, ())
        self.assertEqual(len(base), 6)
        base["person", 2] = (7, (4, None))
        self.assertEqual([row[0] for _, row in base.rows("person")], [7, 7, 7, 100])

    def test_a_row_set_again_with_its_own_label(self):
        base = Database(WIDE)
        base["a", 1] = (5, (None, None, None))
        base["a", 1] = (5, (1, 2, 3))
        self.assertEqual(base["a", 1], (5, (1, 2, 3)))

    def test_a_label_is_free_again(self):
        base = example_base()
        base.drop("city", 4)
        base["city", 5] = (100, ())
        base["city", 5] = (200, ())
        base["city", 6] = (100, ())
        self.assertEqual(base.rows("city"), [(5, (200, ())), (6, (100, ()))])
        self.assert_not_put(base, Taken, "city", 5, (100, ()))

    def test_a_label_stays_taken_after_an_error(self):
        base = example_base()
        self.assert_not_put(base, NoRow, "city", 4, (200, (1,)))
        self.assert_not_put(base, Taken, "city", 5, (100, ()))
        base["city", 5] = (200, ())
        self.assertEqual(len(base), 4)

    def test_drop(self):
        base = example_base()
        self.assertIsNone(base.drop("person", 1))
        self.assertIs(("person", 1) in base, False)
        self.assertIs(("person", 2) in base, True)
        self.assertEqual(len(base), 2)
        raised(self, Missing, base.drop, "person", 1)
        raised(self, Missing, take, base, "person", 1)
        self.assertIsNone(base.drop(key=4, table="city"))
        self.assertEqual(contents(base), [("city", []), ("person", [(2, (8, (4, None)))])])

    def test_in(self):
        base = example_base()
        for at in (("city", 4), ("person", 1), ("person", 2)):
            self.assertIs(at in base, True)
        for at in (("city", 1), ("person", 4), (4, "city")):
            self.assertIs(at in base, False)
            self.assertIs(at not in base, True)
        self.assertIs((Agreeing(), Agreeing()) in base, False)

    def test_len_counts_the_rows_of_all_tables(self):
        base = example_base()
        self.assertEqual(len(base), 3)
        base["city", 5] = (0, ())
        self.assertEqual(len(base), 4)
        base["city", 5] = (1, ())
        self.assertEqual(len(base), 4)
        base.drop("person", 2)
        self.assertEqual(len(base), 3)

    def test_rows_ascend_by_key(self):
        base = Database(example_schema())
        for key in (10, 9, 2, 100, 10 ** 29 - 1, 1, 11):
            base["city", key] = (1000 - key if key < 1000 else 0, ())
        self.assertEqual([key for key, _ in base.rows("city")], [1, 2, 9, 10, 11, 100, 10 ** 29 - 1])
        self.assertEqual(base.rows(table="city")[1], (2, (998, ())))
        self.assertIs(base.rows("city")[0].__class__, tuple)

    def test_rows_are_a_new_list_each_time(self):
        base = example_base()
        base.rows("person").clear()
        listed = base.rows("person")
        self.assertEqual(listed, [(1, (7, (4, 2))), (2, (8, (4, None)))])
        base["person", 3] = (9, (None, None))
        self.assertEqual(len(listed), 2)
        listed.pop()
        self.assertEqual(len(base.rows("person")), 3)

    def test_sixty_rows(self):
        base = Database(example_schema())
        for key in range(60, 0, -1):
            base["city", key] = (key * 10 ** 28, ())
        self.assertEqual(len(base), 60)
        self.assertEqual(base.rows("city"), [(key, (key * 10 ** 28, ())) for key in range(1, 61)])
        self.assert_not_put(base, Taken, "city", 1, (60 * 10 ** 28, ()))

    def test_schema(self):
        base = example_base()
        self.assertEqual(base.schema(), example_schema())
        self.assertEqual(base.schema().tables(), TABLES)
        self.assertEqual(Database(WIDE).schema(), WIDE)

    def test_the_schema_that_is_passed_stays(self):
        schema = example_schema()
        base = Database(schema)
        base["city", 1] = (1, ())
        self.assertEqual(schema, example_schema())
        self.assertEqual(len(Database(schema)), 0)

    def test_twin(self):
        base = example_base()
        twin = base.twin()
        self.assertIsInstance(twin, Database)
        self.assertEqual(twin, base)
        self.assertEqual(contents(twin), contents(base))
        self.assertEqual(twin.schema(), base.schema())

    def test_a_twin_is_independent_both_ways(self):
        base = example_base()
        twin = base.twin()
        twin["person", 1] = (70, (None, None))
        twin["city", 5] = (101, ())
        twin.drop("person", 2)
        self.assertEqual(base, example_base())
        self.assertEqual(contents(base), contents(example_base()))
        other = base.twin()
        base["city", 4] = (0, ())
        base["city", 6] = (6, ())
        base.drop("person", 1)
        self.assertEqual(other, example_base())
        self.assertEqual(twin.rows("city"), [(4, (100, ())), (5, (101, ()))])

    def test_a_twin_knows_the_labels(self):
        twin = example_base().twin()
        self.assert_not_put(twin, Taken, "city", 5, (100, ()))
        twin.drop("city", 4)
        twin["city", 5] = (100, ())
        self.assertEqual(len(twin), 3)

    def test_next_key(self):
        base = Database(example_schema())
        self.assertEqual(base.next_key("city"), 1)
        base["city", 7] = (1, ())
        base["city", 3] = (2, ())
        self.assertEqual(base.next_key("city"), 8)
        self.assertEqual(base.next_key(table="person"), 1)
        base.drop("city", 7)
        self.assertEqual(base.next_key("city"), 4)
        base.drop("city", 3)
        self.assertEqual(base.next_key("city"), 1)
        self.assertEqual(len(base), 0)

    def test_keys_of_29_digits(self):
        base = Database(example_schema())
        key = 10 ** 29 - 1
        base["city", key] = (1, ())
        base["person", key] = (2, (key, key))
        self.assertEqual(base["city", key], (1, ()))
        self.assertIs(("city", key) in base, True)
        self.assertIs(("city", key - 1) in base, False)
        self.assertIs(base.is_closed(), True)
        self.assertEqual(base.next_key("city"), 10 ** 29)
        self.assertEqual(base.rows("person"), [(key, (2, (key, key)))])
        base.drop("city", key)
        self.assertIs(base.is_closed(), False)

    def test_is_closed(self):
        base = Database(example_schema())
        base["person", 1] = (1, (None, None))
        self.assertIs(base.is_closed(), True)
        base["person", 1] = (1, (None, 1))
        self.assertIs(base.is_closed(), True)
        base["person", 1] = (1, (1, None))
        self.assertIs(base.is_closed(), False)
        base["city", 2] = (1, ())
        self.assertIs(base.is_closed(), False)
        base["city", 1] = (2, ())
        self.assertIs(base.is_closed(), True)
        base["person", 2] = (1, (None, 3))
        self.assertIs(base.is_closed(), False)
        base.drop("person", 2)
        self.assertIs(base.is_closed(), True)
        base.drop("city", 1)
        self.assertIs(base.is_closed(), False)

    def test_each_column_leads_to_its_own_table(self):
        base = Database(WIDE)
        base["b", 2] = (0, ())
        base["c", 3] = (0, ())
        base["a", 1] = (0, (2, 3, 1))
        self.assertIs(base.is_closed(), True)
        for cells in ((3, 3, 1), (1, 3, 1), (2, 2, 1), (2, 1, 1), (2, 3, 2), (2, 3, 3)):
            base["a", 1] = (0, cells)
            self.assertIs(base.is_closed(), False)
        base["a", 1] = (0, (None, None, None))
        self.assertIs(base.is_closed(), True)

    def test_equality(self):
        base = example_base()
        self.assertTrue(base == example_base())
        self.assertFalse(base != example_base())
        other = Database(example_schema())
        other["person", 2] = (8, (4, None))
        other["person", 1] = (7, (4, 2))
        self.assertFalse(base == other)
        other["city", 4] = (100, ())
        self.assertTrue(base == other)

    def test_unequal_rows(self):
        for table, key, row in (
            ("city", 4, (101, ())), ("city", 5, (101, ())), ("person", 1, (7, (4, 1))), ("person", 1, (7, (None, 2))),
            ("person", 2, (7, (4, None))), ("person", 3, (7, (4, 2))),
        ):
            with self.subTest(table=table, key=key):
                other = example_base()
                other[table, key] = row
                self.assertTrue(other != example_base())
                self.assertFalse(other == example_base())
                self.assertFalse(example_base() == other)

    def test_unequal_schemas(self):
        one = Database(Schema((("a", True, ()),)))
        two = Database(Schema((("a", False, ()),)))
        self.assertFalse(one == two)
        one["a", 1] = (1, ())
        two["a", 1] = (1, ())
        self.assertFalse(one == two)
        self.assertTrue(one != two)

    def test_equal_to_nothing_else(self):
        base = Database(example_schema())
        others = [base.schema(), Script(base.schema(), ()), contents(base), []]
        for number, other in strange(0, *FLAGS, *others):
            with self.subTest(number=number):
                self.assertIs(base == other, False)
                self.assertIs(base != other, True)

    def test_every_error_is_a_carry_error(self):
        base = example_base()
        for table, key, row in (("town", 1, (1, ())), ("city", 0, (1, ())), ("city", 1, ()), ("city", 1, (100, ()))):
            with self.assertRaises(CarryError):
                put(base, table, key, row)


if __name__ == "__main__":
    unittest.main()
