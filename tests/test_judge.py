"""[12]: what went wrong in runs."""

import unittest

from carrykeys.bases import Database, Schema
from carrykeys.errors import NoStops, NotClosed, NotSame
from carrykeys.judge import losses
from carrykeys.scripts import Script
from model import dice_of, draw_base, draw_schema, draw_script, draw_stops, model_losses
from support import FLAGS, TABLES, base_of, contents, example_base, example_schema, raised, strange

ITEMS = Schema((("item", False, (("up", "item"),)),))
NODES = Schema((("node", True, (("up", "node"),)),))
PAIR = Schema((("b", False, ()), ("a", False, (("x", "b"), ("y", "b")))))
CITY = ("load", "city", "raw", True)
PERSON = ("load", "person", "raw", False)
FILL = ("fill", "person", "boss")


class LossesTest(unittest.TestCase):
    def assert_losses(self, expected, schema, steps, source, target=None, stops=(), kept=True):
        source, target = base_of(schema, source), base_of(schema, target)
        before = contents(source), contents(target)
        found = losses(Script(schema, steps, kept), source, target, stops)
        self.assertEqual(found, expected)
        self.assertIs(found.__class__, list)
        self.assertEqual((contents(source), contents(target)), before)

    def test_nothing(self):
        schema = example_schema()
        source = example_base()
        target = base_of(schema, {"city": {1: (100, ())}, "person": {1: (7, (1, 1))}})
        self.assertEqual(losses(Script(schema, (CITY, PERSON, FILL)), source, target), [])
        self.assertEqual(losses(Script(schema, ()), Database(schema), target), [])
        self.assertEqual(losses(Script(schema, (CITY, PERSON, FILL)), source, target, stops=(1, 2, 3, 4)), [])

    def test_new_lists(self):
        schema = example_schema()
        script, source, target = Script(schema, (CITY,)), example_base(), Database(schema)
        found = losses(script, source, target)
        self.assertEqual(found, [("never", "person", 1), ("never", "person", 2)])
        found.clear()
        self.assertEqual(losses(script, source, target), [("never", "person", 1), ("never", "person", 2)])

    def test_by_names(self):
        schema = example_schema()
        found = losses(Script(schema, (PERSON,)), stops=(), target=Database(schema), source=Database(schema))
        self.assertEqual(found, [])

    def test_errors(self):
        schema = example_schema()
        script = Script(schema, (("load", "person", "refuse", False),))
        closed = base_of(schema, {"person": {1: (7, (None, 1))}})
        wrong = base_of(schema, {"person": {1: (7, (None, 2))}})
        other = Database(Schema((TABLES[0],)))
        for source, target in [(other, wrong), (wrong, other), (other, other)]:
            raised(self, NotSame, losses, script, source, target, None)
        self.assertEqual(raised(self, NotClosed, losses, script, wrong, wrong, None).part, "source")
        self.assertEqual(raised(self, NotClosed, losses, script, closed, wrong, None).part, "target")
        for number, stops in strange(*FLAGS, [1], (-1,), (True,), (0,) * 21):
            with self.subTest(number=number):
                raised(self, NoStops, losses, script, closed, closed, stops)
        self.assertEqual(losses(script, closed, closed, ()), [("refused", 0, 1, "missing")])

    def test_refused(self):
        steps = (("sweep", "node", "up"), ("load", "node", "refuse", False))
        source = {"node": {4: (1, (None,)), 5: (2, (6,)), 6: (3, (None,))}}
        self.assert_losses([("refused", 1, 5, "missing")], NODES, steps, source)
        self.assert_losses([("refused", 1, 4, "label")], NODES, steps, source, {"node": {9: (1, (None,))}})
        self.assert_losses([("refused", 1, 5, "label")], NODES, steps, source, {"node": {9: (2, (None,))}})

    def test_refused_is_all(self):
        # Behind the stop the label is taken, and the sweep has touched the old row.
        steps = (("load", "node", "blank", False), ("sweep", "node", "up"))
        source, target = {"node": {1: (1, (2,)), 2: (2, (1,))}}, {"node": {1: (7, (1,))}}
        self.assert_losses([("refused", 0, 1, "label")], NODES, steps, source, target, (3,), False)

    def test_never(self):
        rows = {9: (1, (None,)), 4: (1, (9,))}
        self.assert_losses([("never", "item", 4), ("never", "item", 9)], ITEMS, (), {"item": rows}, {"item": {1: (1, (1,))}})

    def test_never_where_a_row_is_mapped(self):
        source, target = {"node": {3: (1, (3,))}}, {"node": {8: (1, (None,))}}
        self.assert_losses([], NODES, (("load", "node", "raw", True),), source, target)
        self.assert_losses([("never", "node", 3)], NODES, (), source, target)

    def test_twice(self):
        load = ("load", "item", "blank", False)
        source = {"item": {2: (1, (None,)), 3: (2, (None,)), 4: (3, (None,))}}
        self.assert_losses([("twice", "item", 2), ("twice", "item", 3)], ITEMS, (load,), source, None, (2,), False)
        self.assert_losses([("twice", "item", 2)], ITEMS, (load,), source, None, (1, 1, 1), False)
        self.assert_losses([], ITEMS, (load,), source, None, (1, 1, 1, 2), True)

    def test_merged_with_a_row_made_of_another_one(self):
        load = ("load", "item", "raw", True)
        source = {"item": {5: (1, (None,)), 3: (1, (None,)), 4: (2, (None,)), 9: (1, (None,))}}
        self.assert_losses([("merged", "item", 5), ("merged", "item", 9)], ITEMS, (load,), source)

    def test_merged_with_an_old_row(self):
        load = ("load", "item", "raw", True)
        source = {"item": {5: (1, (None,)), 3: (1, (None,)), 4: (2, (None,)), 9: (1, (None,)), 7: (2, (None,))}}
        target = {"item": {2: (1, (None,)), 8: (1, (None,))}}
        self.assert_losses([("merged", "item", 5), ("merged", "item", 7), ("merged", "item", 9)], ITEMS, (load,), source, target)
        self.assert_losses([], ITEMS, (load,), {"item": {5: (1, (None,)), 9: (3, (None,))}}, target)

    def test_merged_is_asked_in_one_table(self):
        load = (("load", "b", "raw", True), ("load", "a", "raw", True))
        source = {"a": {2: (1, (None, None))}, "b": {1: (1, ())}}
        self.assert_losses([], PAIR, load, source, {"a": {1: (1, (None, None))}, "b": {1: (1, ())}})
        self.assert_losses([], PAIR, load, source)

    def test_only_the_first_load_merges(self):
        matching, making = ("load", "item", "raw", True), ("load", "item", "raw", False)
        source = {"item": {1: (5, (None,)), 2: (5, (None,))}}
        self.assert_losses([("merged", "item", 2)], ITEMS, (matching, making), source)
        self.assert_losses([], ITEMS, (making, matching), source)

    def test_never_twice_and_merged_in_their_order(self):
        schema = Schema((("b", False, ()), ("c", False, ()), ("a", False, (("x", "b"),))))
        steps = (("load", "b", "raw", False), ("load", "a", "raw", True))
        source = {
            "a": {7: (1, (4,)), 8: (1, (3,)), 9: (2, (None,))},
            "b": {3: (1, ()), 4: (1, ())},
            "c": {6: (1, ()), 2: (1, ())},
        }
        expected = [("twice", "b", 3), ("never", "c", 2), ("never", "c", 6), ("merged", "a", 8)]
        self.assert_losses(expected, schema, steps, source, {"a": {1: (3, (None,))}}, (1,), False)

    def test_astray_that_was_left(self):
        source = {"item": {3: (1, (3,)), 5: (2, (3,)), 7: (3, (9,)), 9: (4, (None,))}}
        for missing in ("raw", "blank"):
            load = ("load", "item", missing, False)
            self.assert_losses([("astray", "item", 1, "up"), ("astray", "item", 3, "up")], ITEMS, (load,), source)
            self.assert_losses([], ITEMS, (load, ("fill", "item", "up")), source)

    def test_astray_by_chance_not(self):
        # The old key that was left is the new key, too.
        source = {"item": {1: (1, (2,)), 2: (2, (2,))}}
        self.assert_losses([], ITEMS, (("load", "item", "raw", False),), source)

    def test_astray_by_a_patch_too_many(self):
        steps = (("load", "b", "raw", False), ("load", "a", "raw", False), ("patch", "a", "y"))
        source = {"a": {1: (1, (3, 3)), 2: (1, (2, 2)), 3: (1, (None, None))}, "b": {2: (1, ()), 3: (1, ())}}
        self.assert_losses([("astray", "a", 1, "y")], PAIR, steps, source)
        self.assert_losses([("astray", "a", 1, "x"), ("astray", "a", 1, "y")], PAIR, steps + (("patch", "a", "x"),), source)
        self.assert_losses([], PAIR, steps[:2], source)

    def test_astray_with_an_image_that_is_old(self):
        schema = example_schema()
        source = {"city": {1: (5, ())}, "person": {1: (1, (1, None))}}
        target = {"city": {1: (4, ()), 8: (5, ())}}
        self.assert_losses([("astray", "person", 1, "home")], schema, (PERSON, CITY), source, target)
        self.assert_losses([], schema, (CITY, PERSON), source, target)
        self.assert_losses([], schema, (PERSON, CITY, ("patch", "person", "home")), source, target)

    def test_astray_is_not_asked_of_what_has_no_image(self):
        schema = example_schema()
        source = {"city": {4: (5, ())}, "person": {4: (1, (4, None)), 5: (1, (None, 4))}}
        self.assert_losses([("never", "city", 4)], schema, (PERSON,), source)
        # The rows that were made of 4 twice are not asked, and neither is the cell that leads to it.
        steps = (PERSON, CITY)
        self.assert_losses([("twice", "person", 4)], schema, steps, source, {"person": {1: (9, (None, 1))}}, (1,), False)
        merging = (("load", "person", "blank", True), CITY)
        source = {"person": {4: (1, (None, 5)), 5: (1, (None, 4)), 6: (2, (None, 5)), 7: (3, (None, 6))}}
        self.assert_losses([("merged", "person", 5)], schema, merging, source)

    def test_astray_is_not_asked_of_old_rows(self):
        source, target = {"node": {1: (5, (1,))}}, {"node": {3: (5, (None,))}}
        self.assert_losses([], NODES, (("load", "node", "raw", True),), source, target)

    def test_astray_with_rows_of_an_earlier_run(self):
        # Behind the stop the row is matched, and no step goes through it again.
        steps = (("load", "node", "raw", True), ("fill", "node", "up"))
        source, target = {"node": {1: (5, (1,)), 2: (6, (1,))}}, {"node": {1: (0, (None,))}}
        self.assert_losses([("astray", "node", 2, "up")], NODES, steps, source, target, (1,), False)
        self.assert_losses([], NODES, steps, source, target, (1,), True)

    def test_touched(self):
        steps = (("load", "item", "raw", False), ("sweep", "item", "up"))
        source = {"item": {1: (1, (None,)), 2: (1, (None,))}}
        target = {"item": {7: (9, (1,)), 1: (9, (2,)), 2: (9, (None,)), 3: (9, (7,))}}
        self.assert_losses([("touched", "item", 1, "up"), ("touched", "item", 7, "up")], ITEMS, steps, source, target)

    def test_touched_that_is_as_it_was_again(self):
        steps = (("load", "node", "raw", True), ("sweep", "node", "up"))
        source = {"node": {1: (2, (None,)), 2: (1, (None,))}}
        target = {"node": {1: (1, (2,)), 2: (2, (None,))}}
        self.assert_losses([("touched", "node", 1, "up")], NODES, steps, source, target)
        self.assert_losses([], NODES, steps + steps[1:], source, target)

    def test_touched_in_several_columns_and_tables(self):
        schema = Schema((("b", False, (("z", "b"),)), ("a", False, (("x", "b"), ("y", "b")))))
        steps = (("load", "b", "raw", False), ("sweep", "a", "y"), ("sweep", "a", "x"), ("sweep", "b", "z"))
        source = {"b": {1: (1, (None,))}}
        target = {"b": {1: (0, (1,))}, "a": {2: (0, (1, 1)), 1: (0, (None, 1))}}
        expected = [("touched", "b", 1, "z"), ("touched", "a", 1, "y"), ("touched", "a", 2, "x"), ("touched", "a", 2, "y")]
        self.assert_losses(expected, schema, steps, source, target)

    def test_all_in_their_order(self):
        schema = Schema((("c", False, (("z", "a"),)), ("b", False, ()), ("a", False, (("x", "a"), ("y", "b")))))
        steps = (("load", "a", "raw", False), ("load", "c", "raw", True), ("sweep", "a", "x"), ("sweep", "c", "z"))
        source = {
            "a": {3: (1, (4, None)), 4: (2, (3, None)), 5: (3, (None, 2))},
            "b": {2: (1, ())},
            "c": {1: (1, (3,)), 2: (1, (4,)), 3: (2, (4,))},
        }
        target = {"a": {3: (0, (3, None))}, "c": {1: (0, (3,)), 2: (0, (None,))}}
        self.assert_losses([
            ("merged", "c", 2), ("never", "b", 2),
            ("astray", "c", 3, "z"), ("astray", "c", 4, "z"), ("astray", "a", 5, "x"),
            ("touched", "c", 1, "z"), ("touched", "a", 3, "x"),
        ], schema, steps, source, target)

    def test_drawn(self):
        seen = {}
        for seed in range(4000):
            dice = dice_of(seed)
            schema = draw_schema(dice)
            script = draw_script(dice, schema)
            source, target, stops = draw_base(dice, schema), draw_base(dice, schema), draw_stops(dice)
            with self.subTest(seed=seed):
                found = losses(script, source, target, stops)
                self.assertEqual(found, model_losses(script, source, target, stops))
            for loss in found:
                seen[loss[0]] = True
        self.assertEqual(sorted(seen), ["astray", "merged", "never", "refused", "touched", "twice"])


if __name__ == "__main__":
    unittest.main()
