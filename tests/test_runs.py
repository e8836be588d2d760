"""[8] to [11]: runs, their stops and their outcomes."""

import unittest

from carrykeys.bases import Database, Schema
from carrykeys.errors import NoStops, NoTable, NotClosed, NotSame, Refused
from carrykeys.runs import run
from carrykeys.scripts import Script
from model import Model, Refusal, dice_of, draw_base, draw_schema, draw_script, draw_stops, plain
from support import FLAGS, TABLES, base_of, contents, example_base, example_schema, raised, strange

CITY = ("load", "city", "raw", True)
PERSON = ("load", "person", "raw", False)
PATCH = ("patch", "person", "boss")
FILL = ("fill", "person", "boss")
SWEEP = ("sweep", "person", "boss")
HOME = ("patch", "person", "home")

# One table without a column, and one that refers to it and to itself; then two that refer to one another.
OTHER = Schema((TABLES[0],))
RING = Schema((("a", False, (("x", "b"),)), ("b", False, (("y", "a"),))))
NODES = Schema((("node", True, (("up", "node"),)),))
ITEMS = Schema((("item", False, (("up", "item"),)),))

CLOSED = {"person": {1: (7, (None, 1))}}
OPEN = {"person": {1: (7, (None, 2))}}

WRONG_STOPS = [
    [], [1], [1, 2], (True,), (False,), (1, True), (-1,), (3, -1), (1.0,), ("1",), (None,), ((1,),), ([],),
    tuple(range(21)), (0,) * 21, {1: 2}, range(3), "12", b"12", 0, 1,
]


def pairs(many):
    """Return the tuples of the mapping 1 to 2, 2 to 3 and so on."""
    return [(key, key + 1) for key in range(1, many + 1)]


class RunsTest(unittest.TestCase):
    def assert_rows(self, rows, steps, source, target=None, stops=(), kept=True):
        """Check the rows of the target behind a run; the bases are given as dicts of the tables."""
        schema = self.schema
        outcome = run(Script(schema, steps, kept), base_of(schema, source), base_of(schema, target), stops)
        self.assertEqual({table: dict(outcome.target().rows(table)) for table in rows}, rows)
        return outcome

    def assert_refused(self, told, steps, source, target=None, stops=(), kept=True):
        schema = self.schema
        source, target = base_of(schema, source), base_of(schema, target)
        before = contents(source), contents(target)
        error = raised(self, Refused, run, Script(schema, steps, kept), source, target, stops)
        self.assertEqual((error.index, error.key, error.why), told)
        self.assertEqual((contents(source), contents(target)), before)


class ErrorsTest(RunsTest):
    """[8]"""

    schema = example_schema()

    def assert_error(self, error, source, target, stops=(), schema=None, steps=(CITY,)):
        before = contents(source), contents(target)
        caught = raised(self, error, run, Script(schema or self.schema, steps), source, target, stops)
        self.assertEqual((contents(source), contents(target)), before)
        return caught

    def test_not_same(self):
        good, bad = base_of(self.schema), Database(OTHER)
        self.assert_error(NotSame, bad, good)
        self.assert_error(NotSame, good, bad)
        self.assert_error(NotSame, bad, bad)
        self.assert_error(NotSame, good, good, schema=OTHER)

    def test_schemas_that_are_nearly_the_same(self):
        for tables in [
            (TABLES[1], TABLES[0]),
            (("city", False, ()), TABLES[1]),
            (TABLES[0], ("person", False, (("boss", "person"), ("home", "city")))),
            (TABLES[0], ("person", False, (("home", "city"), ("boss", "city")))),
            TABLES + (("town", True, ()),),
        ]:
            with self.subTest(tables=tables):
                self.assert_error(NotSame, Database(Schema(tables)), base_of(self.schema))
                self.assert_error(NotSame, base_of(self.schema), Database(Schema(tables)))

    def test_equal_schemas_are_the_same(self):
        outcome = run(Script(Schema(TABLES), (CITY,)), Database(Schema(TABLES)), Database(Schema(TABLES)))
        self.assertEqual(outcome.strokes, 0)

    def test_not_closed(self):
        closed, wrong = base_of(self.schema, CLOSED), base_of(self.schema, OPEN)
        self.assertEqual(self.assert_error(NotClosed, wrong, closed).part, "source")
        self.assertEqual(self.assert_error(NotClosed, closed, wrong).part, "target")
        self.assertEqual(self.assert_error(NotClosed, wrong, wrong).part, "source")

    def test_not_closed_though_nothing_would_be_carried(self):
        closed, wrong = base_of(self.schema), base_of(self.schema, OPEN)
        self.assertEqual(self.assert_error(NotClosed, wrong, closed, steps=()).part, "source")
        self.assertEqual(self.assert_error(NotClosed, closed, wrong, steps=()).part, "target")

    def test_no_stops(self):
        base = base_of(self.schema, CLOSED)
        for number, stops in strange(*FLAGS, *WRONG_STOPS):
            with self.subTest(number=number):
                self.assert_error(NoStops, base, base, stops)

    def test_stops_that_are_allowed(self):
        base = base_of(self.schema, {"city": {1: (1, ()), 2: (2, ())}})
        for stops in [(), (0,), (1,), (10 ** 30,), (0,) * 20, (1,) * 20, tuple(range(20))]:
            with self.subTest(stops=stops):
                outcome = run(Script(self.schema, (CITY,)), base, Database(self.schema), stops)
                self.assertEqual(outcome.target(), base)

    def test_the_order_of_the_errors(self):
        closed, wrong, other = base_of(self.schema, CLOSED), base_of(self.schema, OPEN), Database(OTHER)
        refusing = (("load", "person", "refuse", False),)
        self.assert_error(NotSame, other, wrong, None, steps=refusing)
        self.assert_error(NotSame, wrong, other, None, steps=refusing)
        self.assertEqual(self.assert_error(NotClosed, wrong, wrong, None, steps=refusing).part, "source")
        self.assertEqual(self.assert_error(NotClosed, closed, wrong, None, steps=refusing).part, "target")
        self.assert_error(NoStops, closed, closed, None, steps=refusing)
        self.assert_error(Refused, closed, closed, (), steps=refusing)

    def test_by_names(self):
        source = base_of(self.schema, CLOSED)
        outcome = run(Script(self.schema, (PERSON,)), stops=(1,), target=Database(self.schema), source=source)
        self.assertEqual(outcome.target().rows("person"), [(1, (7, (None, 1)))])

    def test_nothing_that_is_passed_is_changed(self):
        source, target = example_base(), base_of(self.schema, {"person": {1: (9, (None, 1))}})
        before = contents(source), contents(target)
        outcome = run(Script(self.schema, (CITY, PERSON, PATCH, SWEEP)), source, target, (2, 3))
        self.assertNotEqual(outcome.target(), target)
        self.assertEqual((contents(source), contents(target)), before)

    def test_later_changes_of_what_was_passed(self):
        source, target = example_base(), Database(self.schema)
        outcome = run(Script(self.schema, (CITY, PERSON)), source, target)
        before = contents(outcome.target())
        source.drop("person", 1)
        target["city", 9] = (5, ())
        self.assertEqual(contents(outcome.target()), before)
        self.assertEqual(outcome.made("person"), [(1, 1), (2, 2)])

    def test_one_base_as_source_and_target(self):
        base = base_of(ITEMS, {"item": {1: (1, (1,))}})
        outcome = run(Script(ITEMS, (("load", "item", "blank", False),)), base, base)
        self.assertEqual(outcome.target().rows("item"), [(1, (1, (1,))), (2, (1, (None,)))])
        self.assertEqual(base.rows("item"), [(1, (1, (1,)))])


class LoadTest(RunsTest):
    """[9]: load."""

    schema = example_schema()
    source = {
        "city": {4: (100, ()), 6: (200, ())},
        "person": {1: (7, (4, 3)), 2: (8, (6, 2)), 3: (9, (None, 1)), 5: (9, (6, None))},
    }
    target = {"city": {3: (200, ())}, "person": {6: (7, (3, 6)), 2: (7, (None, None)), 8: (5, (3, 2))}}

    def test_raw(self):
        self.assert_rows({"person": {
            6: (7, (3, 6)), 2: (7, (None, None)), 8: (5, (3, 2)),
            9: (7, (4, 3)), 10: (8, (3, 2)), 11: (9, (None, 9)), 12: (9, (3, None)),
        }, "city": {3: (200, ()), 4: (100, ())}}, (CITY, PERSON), self.source, self.target)

    def test_raw_ahead_of_what_it_refers_to(self):
        outcome = self.assert_rows({"person": {
            1: (7, (4, 3)), 2: (8, (6, 2)), 3: (9, (None, 1)), 4: (9, (6, None)),
        }, "city": {1: (100, ()), 2: (200, ())}}, (PERSON, CITY), self.source)
        self.assertEqual(outcome.mapped("person"), [(1, 1), (2, 2), (3, 3), (5, 4)])

    def test_blank(self):
        self.assert_rows({"person": {
            6: (7, (3, 6)), 2: (7, (None, None)), 8: (5, (3, 2)),
            9: (7, (4, None)), 10: (8, (3, None)), 11: (9, (None, 9)), 12: (9, (3, None)),
        }}, (CITY, ("load", "person", "blank", False)), self.source, self.target)

    def test_refuse(self):
        refuse = ("load", "person", "refuse", False)
        self.assert_refused((1, 1, "missing"), (CITY, refuse), self.source, self.target)
        self.assert_refused((0, 1, "missing"), (refuse, CITY), self.source, self.target)
        source = {"city": {4: (1, ())}, "person": {7: (1, (4, None)), 9: (1, (4, 7)), 11: (1, (None, 9))}}
        self.assert_rows({"person": {1: (1, (1, None)), 2: (1, (1, 1)), 3: (1, (None, 2))}}, (CITY, refuse), source)

    def test_refuse_of_itself_and_of_a_later_row(self):
        refuse = ("load", "person", "refuse", False)
        for boss in (3, 4):
            source = {"person": {2: (1, (None, None)), 3: (1, (None, boss)), 4: (1, (None, 2))}}
            self.assert_refused((2, 3, "missing"), (SWEEP, CITY, refuse), source)

    def test_refuse_where_only_the_last_column_is_missing(self):
        source = {"city": {1: (1, ())}, "person": {3: (1, (1, None)), 2: (2, (None, 3))}}
        self.assert_refused((1, 2, "missing"), (CITY, ("load", "person", "refuse", False)), source)

    def test_refuse_without_a_column(self):
        for missing in ("raw", "blank", "refuse"):
            self.assert_rows({"city": {1: (1, ())}}, (("load", "city", missing, True),), {"city": {9: (1, ())}})

    def test_ascending_by_key(self):
        source = {"city": {30: (3, ()), 4: (1, ()), 200: (2, ()), 5: (9, ())}}
        outcome = self.assert_rows({"city": {1: (1, ()), 2: (9, ()), 3: (3, ()), 4: (2, ())}}, (CITY,), source)
        self.assertEqual(outcome.mapped("city"), [(4, 1), (5, 2), (30, 3), (200, 4)])
        self.assertEqual(outcome.made("city"), [(1, 4), (2, 5), (3, 30), (4, 200)])

    def test_match(self):
        outcome = self.assert_rows(
            {"city": {3: (200, ()), 4: (100, ())}}, (CITY,), {"city": {4: (100, ()), 6: (200, ())}}, self.target)
        self.assertEqual(outcome.mapped("city"), [(4, 4), (6, 3)])
        self.assertEqual(outcome.made("city"), [(4, 4)])

    def test_match_takes_the_least_key(self):
        target = {"person": {8: (7, (None, None)), 3: (7, (None, 8)), 12: (7, (None, None)), 1: (6, (None, None))}}
        outcome = self.assert_rows({"person": target["person"]}, (("load", "person", "raw", True),),
                                   {"person": {20: (7, (None, None)), 30: (7, (None, 20))}}, target)
        self.assertEqual(outcome.mapped("person"), [(20, 3), (30, 3)])
        self.assertEqual(outcome.made("person"), [])

    def test_match_with_a_row_made_in_the_same_load(self):
        source = {"person": {2: (7, (None, None)), 4: (7, (None, 2)), 5: (8, (None, 4))}}
        outcome = self.assert_rows({"person": {1: (7, (None, None)), 2: (8, (None, 1))}},
                                   (("load", "person", "raw", True),), source)
        self.assertEqual(outcome.mapped("person"), [(2, 1), (4, 1), (5, 2)])
        self.assertEqual(outcome.made("person"), [(1, 2), (2, 5)])

    def test_match_does_not_look_at_the_cells(self):
        refuse = ("load", "person", "refuse", True)
        outcome = self.assert_rows({"person": {1: (7, (None, None))}}, (refuse,),
                                   {"city": {1: (1, ())}, "person": {5: (7, (1, 5))}}, {"person": {1: (7, (None, None))}})
        self.assertEqual(outcome.mapped("person"), [(5, 1)])

    def test_no_match_where_labels_are_not_unique(self):
        source = {"person": {5: (7, (None, None)), 6: (7, (None, 5))}}
        self.assert_rows({"person": {1: (7, (None, None)), 2: (7, (None, None)), 3: (7, (None, 2))}},
                         (PERSON,), source, {"person": {1: (7, (None, None))}})

    def test_a_label_that_is_taken(self):
        source = {"city": {1: (1, ()), 2: (2, ()), 3: (3, ())}}
        for missing in ("raw", "blank", "refuse"):
            self.assert_refused((1, 2, "label"), (SWEEP, ("load", "city", missing, False)), source, {"city": {9: (2, ())}})
        self.assert_rows({"city": {9: (4, ()), 10: (1, ()), 11: (2, ()), 12: (3, ())}},
                         (("load", "city", "raw", False),), source, {"city": {9: (4, ())}})

    def test_a_label_is_refused_ahead_of_what_is_missing(self):
        self.schema = NODES
        refuse = ("load", "node", "refuse", False)
        source = {"node": {3: (5, (3,))}}
        self.assert_refused((0, 3, "label"), (refuse,), source, {"node": {1: (5, (None,))}})
        self.assert_refused((0, 3, "missing"), (refuse,), source, {"node": {1: (6, (None,))}})

    def test_twice(self):
        steps = (PERSON, ("load", "person", "refuse", True), PERSON)
        source = {"person": {1: (7, (None, 2)), 2: (7, (None, 1))}}
        outcome = self.assert_rows({"person": {1: (7, (None, 2)), 2: (7, (None, 1))}}, steps, source)
        self.assertEqual(outcome.strokes, 6)
        steps = (CITY, ("load", "city", "refuse", False))
        outcome = self.assert_rows({"city": {1: (7, ())}}, steps, {"city": {5: (7, ())}})
        self.assertEqual((outcome.mapped("city"), outcome.strokes), ([(5, 1)], 2))

    def test_itself_an_earlier_and_a_later_row(self):
        self.schema = ITEMS
        source = {"item": {3: (1, (3,)), 5: (2, (3,)), 7: (3, (9,)), 9: (4, (7,))}}
        for missing, left in [("raw", (3, 9)), ("blank", (None, None))]:
            self.assert_rows({"item": {1: (1, (left[0],)), 2: (2, (1,)), 3: (3, (left[1],)), 4: (4, (3,))}},
                             (("load", "item", missing, False),), source)

    def test_the_next_key_behind_a_great_one(self):
        self.schema = NODES
        great = 10 ** 29 - 1
        source = {"node": {great: (1, (7,)), 7: (10 ** 30 - 1, (great,))}}
        outcome = self.assert_rows({"node": {
            2: (3, (None,)), great: (0, (None,)), great + 1: (10 ** 30 - 1, (great,)), great + 2: (1, (great + 1,)),
        }}, (("load", "node", "raw", True),), source, {"node": {great: (0, (None,)), 2: (3, (None,))}})
        self.assertEqual(outcome.mapped("node"), [(7, great + 1), (great, great + 2)])

    def test_two_columns_that_refer_to_one_table(self):
        self.schema = Schema((("a", False, (("x", "b"), ("y", "b"))), ("b", True, ())))
        source = {"a": {1: (1, (2, 3))}, "b": {2: (1, ()), 3: (2, ())}}
        steps = (("load", "b", "raw", True), ("load", "a", "raw", False))
        self.assert_rows({"a": {1: (1, (8, 9))}}, steps, source, {"b": {7: (5, ())}})

    def test_a_mapping_for_each_table(self):
        source = {"city": {1: (1, ())}, "person": {1: (1, (1, 1))}}
        outcome = self.assert_rows({"person": {5: (1, (1, None)), 6: (1, (1, 1))}}, (PERSON, CITY), source,
                                   {"city": {1: (2, ())}, "person": {5: (1, (1, None))}})
        self.assertEqual((outcome.mapped("city"), outcome.mapped("person")), ([(1, 2)], [(1, 6)]))


class ColumnStepsTest(RunsTest):
    """[9]: patch, sweep and fill."""

    schema = example_schema()

    def test_patch(self):
        # Old keys: 2 is mapped to 6 and 6 to 7; 5 is an old row of the target.
        source = {"person": {2: (1, (None, 6)), 6: (2, (None, None)), 9: (3, (None, 2))}}
        target = {"person": {5: (9, (None, 5)), 2: (9, (None, 2))}}
        loaded = {2: (9, (None, 2)), 5: (9, (None, 5)), 6: (1, (None, 6)), 7: (2, (None, None)), 8: (3, (None, 6))}
        self.assert_rows({"person": loaded}, (PERSON,), source, target)
        self.assert_rows({"person": {**loaded, 6: (1, (None, 7)), 8: (3, (None, 7))}}, (PERSON, PATCH), source, target)

    def test_patch_where_nothing_is_mapped(self):
        source = {"city": {4: (1, ())}, "person": {1: (1, (4, None))}}
        outcome = self.assert_rows({"person": {1: (1, (4, None))}}, (PERSON, HOME, CITY), source)
        self.assertEqual(outcome.strokes, 3)
        self.assert_rows({"person": {1: (1, (1, None))}}, (PERSON, CITY, HOME), source)

    def test_patch_changes_one_column(self):
        source = {"city": {4: (1, ())}, "person": {4: (1, (4, 4))}}
        steps = (PERSON, CITY)
        self.assert_rows({"person": {1: (1, (4, 4))}}, steps, source)
        self.assert_rows({"person": {1: (1, (1, 4))}}, steps + (HOME,), source)
        self.assert_rows({"person": {1: (1, (4, 1))}}, steps + (PATCH,), source)

    def test_patch_again_leads_on(self):
        source = {"city": {2: (1, ()), 3: (2, ()), 4: (3, ())}, "person": {1: (1, (4, None)), 2: (1, (2, None))}}
        for many, homes in enumerate([(4, 2), (3, 1), (2, 1), (1, 1), (1, 1)]):
            rows = {1: (1, (homes[0], None)), 2: (1, (homes[1], None))}
            self.assert_rows({"person": rows}, (PERSON, CITY) + many * (HOME,), source)

    def test_patch_goes_through_rows_that_were_made(self):
        source = {"city": {1: (1, ())}, "person": {1: (7, (1, None)), 2: (8, (1, None))}}
        target = {"city": {1: (9, ())}, "person": {3: (7, (1, 3))}}
        steps = (("load", "person", "raw", True), CITY, HOME)
        outcome = self.assert_rows({"person": {3: (7, (1, 3)), 4: (8, (2, None))}}, steps, source, target)
        self.assertEqual(outcome.strokes, 4)

    def test_sweep_goes_through_all_rows(self):
        source = {"city": {1: (1, ())}, "person": {1: (7, (1, None)), 2: (8, (None, None))}}
        target = {"city": {1: (9, ()), 3: (8, ())}, "person": {3: (7, (1, 3)), 9: (6, (None, 3)), 1: (5, (3, 1))}}
        outcome = self.assert_rows(
            {"person": {1: (5, (3, 1)), 3: (7, (4, 3)), 9: (6, (None, 3)), 10: (7, (4, None)), 11: (8, (None, None))}},
            (PERSON, CITY, ("sweep", "person", "home")), source, target)
        self.assertEqual(outcome.strokes, 2 + 1 + 5)

    def test_sweep_ahead_of_the_loads(self):
        source = {"person": {1: (7, (None, 1))}}
        target = {"person": {1: (8, (None, 1)), 2: (8, (None, 1))}}
        outcome = self.assert_rows({"person": {**target["person"], 3: (7, (None, 1))}}, (SWEEP, PERSON), source, target)
        self.assertEqual(outcome.strokes, 3)

    def test_sweep_again_leads_on(self):
        self.schema = ITEMS
        load, sweep = ("load", "item", "blank", False), ("sweep", "item", "up")
        source = {"item": {1: (1, (None,)), 2: (1, (None,)), 3: (1, (1,))}}
        for many, ups in enumerate([(1, 2), (2, 3), (3, 4), (4, 4), (4, 4)]):
            rows = {1: (1, (ups[0],)), 2: (1, (None,)), 3: (1, (None,)), 4: (1, (ups[1],))}
            self.assert_rows({"item": rows}, (load,) + many * (sweep,), source, {"item": {1: (1, (1,))}})

    def test_fill(self):
        source = {"person": {1: (1, (None, 2)), 2: (2, (None, 2)), 3: (3, (None, None)), 4: (4, (None, 1))}}
        target = {"person": {1: (9, (None, 1))}}
        rows = {1: (9, (None, 1)), 2: (1, (None, 3)), 3: (2, (None, 3)), 4: (3, (None, None)), 5: (4, (None, 2))}
        for missing in ("raw", "blank"):
            load = ("load", "person", missing, False)
            for steps in [(load, FILL), (load, FILL, FILL), (load, PATCH, FILL), (load, PATCH, PATCH, PATCH, FILL)]:
                outcome = self.assert_rows({"person": rows}, steps, source, target)
                self.assertEqual(outcome.strokes, 4 * len(steps))

    def test_fill_where_nothing_is_mapped(self):
        source = {"city": {4: (1, ())}, "person": {1: (1, (4, None)), 2: (1, (None, None))}}
        fill = ("fill", "person", "home")
        for missing, left in [("raw", 4), ("blank", None)]:
            load = ("load", "person", missing, False)
            rows = {1: (1, (left, None)), 2: (1, (None, None))}
            self.assert_rows({"person": rows}, (fill, load, fill, CITY), source)
            self.assert_rows({"person": {**rows, 1: (1, (1, None))}}, (load, CITY, fill), source)

    def test_fill_goes_through_rows_that_were_made(self):
        source = {"city": {1: (1, ())}, "person": {1: (7, (1, 1)), 2: (8, (1, 1))}}
        target = {"city": {1: (9, ())}, "person": {1: (7, (None, None)), 2: (5, (1, 2))}}
        steps = (("load", "person", "blank", True), CITY, ("fill", "person", "home"), FILL)
        outcome = self.assert_rows({"person": {**target["person"], 3: (8, (2, 1))}}, steps, source, target)
        self.assertEqual(outcome.strokes, 2 + 1 + 1 + 1)

    def test_fill_takes_back_what_a_patch_did(self):
        source = {"city": {2: (1, ()), 3: (2, ())}, "person": {1: (1, (3, None))}}
        self.assert_rows({"person": {1: (1, (1, None))}}, (CITY, PERSON, HOME), source)
        self.assert_rows({"person": {1: (1, (2, None))}}, (CITY, PERSON, HOME, ("fill", "person", "home")), source)

    def test_tables_that_refer_to_one_another(self):
        self.schema = RING
        load_a, load_b = ("load", "a", "raw", False), ("load", "b", "raw", False)
        source = {"a": {5: (1, (8,)), 6: (2, (None,))}, "b": {8: (3, (6,)), 9: (4, (5,))}}
        rows = {"a": {1: (1, (8,)), 2: (2, (None,))}, "b": {1: (3, (2,)), 2: (4, (1,))}}
        self.assert_rows(rows, (load_a, load_b), source)
        rows["a"][1] = (1, (1,))
        for word in ("patch", "fill", "sweep"):
            self.assert_rows(rows, (load_a, load_b, (word, "a", "x")), source)
        self.assert_rows({"a": {1: (1, (1,)), 2: (2, (None,))}, "b": {1: (3, (6,)), 2: (4, (5,))}},
                         (load_b, load_a), source)

    def test_the_same_column_in_two_tables(self):
        self.schema = Schema((("a", False, (("x", "c"),)), ("b", False, (("x", "c"),)), ("c", False, ())))
        loads = tuple([("load", table, "raw", False) for table in "abc"])
        source = {"a": {1: (1, (5,))}, "b": {1: (2, (5,))}, "c": {5: (0, ())}}
        for table in "ab":
            for word in ("patch", "fill", "sweep"):
                rows = {"a": {1: (1, (5,))}, "b": {1: (2, (5,))}}
                rows[table] = {1: (rows[table][1][0], (1,))}
                self.assert_rows(rows, loads + ((word, table, "x"),), source)


class StopsTest(RunsTest):
    """[10]"""

    schema = ITEMS
    load = ("load", "item", "raw", False)
    patch = ("patch", "item", "up")
    fill = ("fill", "item", "up")
    sweep = ("sweep", "item", "up")
    chain = {"item": {1: (1, (None,)), 2: (2, (3,)), 3: (3, (1,))}}
    old = {"item": {1: (0, (None,))}}
    loaded = {1: (0, (None,)), 2: (1, (None,)), 3: (2, (3,)), 4: (3, (2,))}

    def assert_stopped(self, rows, steps, stops, strokes, kept=True, target=None):
        outcome = self.assert_rows({"item": rows}, steps, self.chain, target or self.old, stops, kept)
        self.assertEqual(outcome.strokes, strokes)
        return outcome

    def test_at_0(self):
        for kept in FLAGS:
            outcome = self.assert_stopped(self.loaded, (self.load,), (0, 0, 0), 3, kept)
            self.assertEqual(outcome.mapped("item"), pairs(3))

    def test_in_the_middle_of_a_step(self):
        outcome = self.assert_stopped(self.loaded, (self.load,), (2,), 5)
        self.assertEqual((outcome.mapped("item"), outcome.made("item")), (pairs(3), [(2, 1), (3, 2), (4, 3)]))

    def test_in_the_middle_of_a_step_that_does_not_keep(self):
        rows = {1: (0, (None,)), 2: (1, (None,)), 3: (2, (3,)), 4: (1, (None,)), 5: (2, (3,)), 6: (3, (4,))}
        outcome = self.assert_stopped(rows, (self.load,), (2,), 5, False)
        self.assertEqual(outcome.mapped("item"), [(1, 4), (2, 5), (3, 6)])
        self.assertEqual(outcome.made("item"), [(2, 1), (3, 2), (4, 1), (5, 2), (6, 3)])

    def test_between_two_steps(self):
        rows = {**self.loaded, 3: (2, (4,)), 4: (3, (3,))}
        self.assert_stopped(rows, (self.load, self.patch), (), 6)
        self.assert_stopped(rows, (self.load, self.patch), (3,), 9)
        again = {5: (1, (None,)), 6: (2, (7,)), 7: (3, (5,))}
        self.assert_stopped({**self.loaded, **again}, (self.load, self.patch), (3,), 9, False)

    def test_a_patch_is_repeated(self):
        # The cell of row 3 becomes 4 ahead of the stop, which is no old key, and that of row 4 only once 3.
        rows = {**self.loaded, 3: (2, (4,)), 4: (3, (3,))}
        self.assert_stopped(rows, (self.load, self.patch), (5,), 11)
        # Ahead of this stop it becomes 3, too, and 4 behind it.
        self.assert_stopped({**rows, 4: (3, (4,))}, (self.load, self.patch, self.load), (6,), 15)

    def test_a_fill_is_repeated(self):
        rows = {**self.loaded, 3: (2, (4,))}
        for stops in [(), (4,), (5,), (3, 4, 5, 5)]:
            self.assert_stopped(rows, (self.load, self.fill), stops, 6 + sum(stops))

    def test_fill_of_rows_of_an_earlier_run(self):
        # Without the rows of the earlier run, row 3 would keep its old key.
        kept = self.assert_stopped({**self.loaded, 3: (2, (4,))}, (self.load, self.fill), (3,), 9)
        self.assertEqual(kept.made("item"), [(2, 1), (3, 2), (4, 3)])
        self.schema = NODES
        load, fill = ("load", "node", "raw", True), ("fill", "node", "up")
        source = {"node": {5: (1, (6,)), 6: (2, (5,))}}
        self.assert_rows({"node": {1: (1, (2,)), 2: (2, (1,))}}, (load, fill), source, None, (2,))
        outcome = self.assert_rows({"node": {1: (1, (6,)), 2: (2, (1,))}}, (load, fill), source, None, (2,), False)
        # Behind the stop both rows are matched, and fill goes through none.
        self.assertEqual((outcome.strokes, outcome.mapped("node")), (4, [(5, 1), (6, 2)]))
        self.assertEqual(outcome.made("node"), [(1, 5), (2, 6)])

    def test_sweep_ahead_of_the_load(self):
        target = {"item": {1: (0, (1,))}}
        steps = (self.sweep, self.load)
        loaded = {**self.loaded, 1: (0, (1,))}
        self.assert_stopped(loaded, steps, (), 4, target=target)
        self.assert_stopped({**loaded, 1: (0, (2,))}, steps, (2,), 2 + 2 + 3, target=target)

    def test_at_the_very_end(self):
        for kept in FLAGS:
            for stop in (3, 4, 10 ** 40):
                outcome = self.assert_stopped(self.loaded, (self.load,), (stop, 1, 1), 3, kept)
                self.assertEqual((outcome.mapped("item"), outcome.made("item")), (pairs(3), [(2, 1), (3, 2), (4, 3)]))

    def test_at_the_end_of_a_later_run(self):
        self.assert_stopped(self.loaded, (self.load,), (1, 2, 3, 1), 6)
        self.assert_stopped(self.loaded, (self.load,), (1, 2, 2, 2), 10)
        outcome = self.assert_stopped({
            1: (0, (None,)), 2: (1, (None,)), 3: (1, (None,)), 4: (2, (3,)), 5: (3, (3,)),
        }, (self.load,), (1, 3, 1), 4, False)
        self.assertEqual((outcome.mapped("item"), outcome.made("item")),
                         ([(1, 3), (2, 4), (3, 5)], [(2, 1), (3, 1), (4, 2), (5, 3)]))

    def test_the_end_is_the_last_stroke_although_steps_follow(self):
        # No row is made, so a run ends with the load, whatever stands behind it.
        for kept in FLAGS:
            script = Script(NODES, (("load", "node", "raw", True), ("patch", "node", "up"), ("fill", "node", "up")), kept)
            source = base_of(NODES, {"node": {7: (1, (None,))}})
            outcome = run(script, source, base_of(NODES, {"node": {2: (1, (None,))}}), (1, 0, 0))
            self.assertEqual((outcome.strokes, outcome.mapped("node")), (1, [(7, 2)]))

    def test_steps_ahead_without_rows(self):
        # In the last run the row that was made already is patched and filled, too.
        self.assert_stopped(self.loaded, (self.patch, self.fill, self.load), (0, 1), 1 + 1 + 1 + 3)

    def test_no_rows_at_all(self):
        for steps in [(), (self.load, self.patch, self.fill, self.sweep)]:
            for stops in [(), (0,), (0, 0), (5,)]:
                for kept in FLAGS:
                    outcome = self.assert_rows({"item": {}}, steps, {}, {}, stops, kept)
                    self.assertEqual(outcome.strokes, 0)

    def test_twenty_stops(self):
        self.assert_stopped(self.loaded, (self.load,), (1,) * 20, 23)
        outcome = self.assert_stopped({
            1: (0, (None,)), **{at: (1, (None,)) for at in range(2, 23)}, 23: (2, (3,)), 24: (3, (22,)),
        }, (self.load,), (1,) * 20, 23, False)
        self.assertEqual(outcome.made("item"), [(at, 1) for at in range(2, 23)] + [(23, 2), (24, 3)])

    def test_a_refusal_in_a_later_run(self):
        self.schema = NODES
        steps = (("load", "node", "raw", False),)
        source = {"node": {3: (1, (None,)), 4: (2, (None,))}}
        self.assert_rows({"node": {1: (1, (None,)), 2: (2, (None,))}}, steps, source, None, (1,))
        self.assert_refused((0, 3, "label"), steps, source, None, (1,), False)
        self.assert_rows({"node": {1: (1, (None,)), 2: (2, (None,))}}, steps, source, None, (2, 0), False)

    def test_a_stop_ahead_of_a_refusal(self):
        refuse = ("load", "item", "refuse", False)
        for kept in FLAGS:
            for stops in [(), (0,), (1,), (1, 1, 0), (2,), (5,)]:
                self.assert_refused((0, 2, "missing"), (refuse,), self.chain, None, stops, kept)

    def test_a_refusal_that_a_stop_turns_into_none(self):
        # Behind the stop, what was missing is mapped.
        self.schema = RING
        steps = (("load", "b", "raw", False), ("load", "a", "refuse", False))
        source = {"a": {1: (1, (1,))}, "b": {1: (1, (1,)), 2: (1, (1,))}}
        self.assert_rows({"a": {1: (1, (1,))}, "b": {1: (1, (1,)), 2: (1, (1,))}}, steps, source, None, (2, 1))
        self.schema = NODES
        steps = (("load", "node", "refuse", True), ("load", "node", "raw", True))
        source = {"node": {1: (1, (1,))}}
        self.assert_refused((0, 1, "missing"), steps, source, None, (0,))


class OutcomeTest(RunsTest):
    """[11]"""

    schema = example_schema()

    def outcome(self):
        source = {"city": {9: (1, ()), 4: (2, ())}, "person": {6: (1, (9, 5)), 5: (2, (4, None)), 8: (3, (None, 8))}}
        target = {"city": {7: (1, ())}, "person": {3: (9, (7, 3))}}
        steps = (CITY, PERSON, PATCH)
        return run(Script(self.schema, steps), base_of(self.schema, source), base_of(self.schema, target), (3, 6))

    def test_target(self):
        outcome = self.outcome()
        rows = contents(outcome.target())
        first, second = outcome.target(), outcome.target()
        self.assertIsInstance(first, Database)
        self.assertEqual((first, first.schema()), (second, self.schema))
        first["city", 1] = (5, ())
        first.drop("person", 3)
        first["person", 4] = (2, (None, None))
        self.assertEqual(contents(second), rows)
        self.assertEqual(contents(outcome.target()), rows)

    def test_mapped_and_made(self):
        outcome = self.outcome()
        self.assertEqual(outcome.mapped("city"), [(4, 8), (9, 7)])
        self.assertEqual(outcome.made("city"), [(8, 4)])
        self.assertEqual(outcome.mapped("person"), [(5, 4), (6, 5), (8, 6)])
        self.assertEqual(outcome.made("person"), [(4, 5), (5, 6), (6, 8)])

    def test_new_lists(self):
        outcome = self.outcome()
        for call in (outcome.mapped, outcome.made):
            for table in ("city", "person"):
                told = call(table)
                kept = list(told)
                self.assertIs(told.__class__, list)
                told.append((1, 1))
                told[0] = (3, 3)
                self.assertEqual(call(table), kept)

    def test_ascending(self):
        source = {"city": {key: (key, ()) for key in (30, 2, 111, 4, 9, 1)}}
        target = {"city": {50: (2, ()), 3: (111, ()), 8: (1, ())}}
        outcome = self.assert_rows({}, (CITY,), source, target)
        self.assertEqual(outcome.mapped("city"), [(1, 8), (2, 50), (4, 51), (9, 52), (30, 53), (111, 3)])
        self.assertEqual(outcome.made("city"), [(51, 4), (52, 9), (53, 30)])
        self.assertEqual((outcome.mapped("person"), outcome.made("person")), ([], []))

    def test_by_name(self):
        outcome = self.outcome()
        self.assertEqual(outcome.mapped(table="city"), outcome.mapped("city"))
        self.assertEqual(outcome.made(table="city"), outcome.made("city"))

    def test_no_table(self):
        outcome = self.outcome()
        for number, table in strange(0, 1, *FLAGS, "town", "City", "home", "city ", ("city",)):
            with self.subTest(number=number):
                self.assertIs(raised(self, NoTable, outcome.mapped, table).name, table)
                self.assertIs(raised(self, NoTable, outcome.made, table).name, table)

    def test_strokes(self):
        self.assertEqual(self.outcome().strokes, 3 + 6 + 8)
        self.assertIs(self.outcome().strokes.__class__, int)

    def test_made_over_several_runs(self):
        source = {"person": {4: (1, (None, None)), 5: (2, (None, 4))}}
        outcome = self.assert_rows({}, (PERSON,), source, {"person": {1: (1, (None, None))}}, (1, 1), False)
        self.assertEqual(outcome.made("person"), [(2, 4), (3, 4), (4, 4), (5, 5)])
        self.assertEqual(outcome.mapped("person"), [(4, 4), (5, 5)])
        self.assertEqual(outcome.strokes, 4)

    def test_outcomes_do_not_meet(self):
        script, source = Script(self.schema, (CITY,)), base_of(self.schema, {"city": {1: (1, ())}})
        first = run(script, source, Database(self.schema))
        second = run(script, source, first.target())
        self.assertEqual((len(first.target()), len(second.target())), (1, 1))
        self.assertEqual((first.made("city"), second.made("city")), ([(1, 1)], []))


class DrawnTest(unittest.TestCase):
    """[8] to [11]: many drawn runs against those of the model."""

    def test_drawn(self):
        refused = 0
        for seed in range(3000):
            dice = dice_of(seed)
            schema = draw_schema(dice)
            script = draw_script(dice, schema)
            source, target, stops = draw_base(dice, schema), draw_base(dice, schema), draw_stops(dice)
            model = Model(script, source, target)
            with self.subTest(seed=seed):
                try:
                    model.carry(stops)
                except Refusal as refusal:
                    refused += 1
                    error = raised(self, Refused, run, script, source, target, stops)
                    self.assertEqual((error.index, error.key, error.why), refusal.args)
                else:
                    self.assert_agree(run(script, source, target, stops), model)
        self.assertGreater(refused, 100)

    def assert_agree(self, outcome, model):
        self.assertEqual(plain(outcome.target()), model.base)
        self.assertEqual(outcome.strokes, model.strokes)
        for table in model.unique:
            self.assertEqual(outcome.mapped(table), sorted(model.mapping[table].items()))
            self.assertEqual(outcome.made(table), sorted(model.ever[table].items()))


if __name__ == "__main__":
    unittest.main()
