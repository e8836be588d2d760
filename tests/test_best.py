"""[15]: the best script of a schema."""

import itertools
import unittest

from carrykeys.bases import Schema
from carrykeys.best import best_script, fewest_steps
from carrykeys.faults import first_fault, is_safe, needless
from carrykeys.scripts import Script
from model import dice_of, draw_base, draw_schema, draw_stops, model_losses
from support import FLAGS


def schema_of(text):
    """Return the schema of words like "a:bc", a table and the tables to which its columns refer."""
    tables = []
    for word in text.split(" "):
        name, targets = word.split(":")
        tables.append((name, name in "ac", tuple(zip("xyz", targets))))
    return Schema(tuple(tables))


def fewest(schema):
    """Return a load for each table, and a fill for each column that no order of the loads spares."""
    names = [entry[0] for entry in schema.tables()]
    columns = [(names.index(table), names.index(schema.target_of(table, column)))
               for table, column in schema.all_columns()]
    orders = itertools.permutations(range(len(names)))
    return len(names) + min([len([1 for at, to in columns if order[at] <= order[to]]) for order in orders])


def all_steps(schema):
    steps = [("load", entry[0], missing, match)
             for entry in schema.tables() for missing in ("raw", "blank", "refuse") for match in FLAGS]
    return steps + [(word, *place) for place in schema.all_columns() for word in ("patch", "fill", "sweep")]


class BestTest(unittest.TestCase):
    def assert_best(self, schema, many):
        self.assertEqual(fewest_steps(schema), many)
        self.assertIs(fewest_steps(schema).__class__, int)
        script = best_script(schema)
        self.assertIs(script.__class__, Script)
        self.assertEqual(script.schema(), schema)
        self.assertIs(script.kept, True)
        self.assertEqual(len(script), many)
        self.assertIs(is_safe(script), True)
        self.assertIsNone(first_fault(script))
        self.assertEqual(needless(script), [])
        return script

    def assert_cases(self, cases):
        for text, many in cases:
            with self.subTest(text):
                self.assert_best(schema_of(text), many)

    def test_no_references(self):
        self.assert_cases([("a:", 1), ("b:", 1), ("a: b:", 2), ("a: b: c: d: e:", 5)])

    def test_tables_that_need_no_fill(self):
        self.assert_cases([
            ("a:b b:", 2), ("a: b:a", 2), ("a:bbb b:", 2), ("a:bc b:c c:", 3), ("a:c b: c:bb", 3),
            ("a:bcd b:cde c:de d:eee e:", 5), ("a: b:a c:ab d:abc e:abc", 5), ("b:e a:d e:a d: c:", 5),
        ])

    def test_columns_that_refer_to_their_own_table(self):
        self.assert_cases([
            ("a:a", 2), ("b:b", 2), ("a:aa", 3), ("b:bbb", 4), ("a:a b:b", 4), ("a:ab b:b", 4),
            ("a:aba b:", 4), ("a: b:abb", 4), ("a:aaa b:bbb c:ccc d:ddd e:eee", 20),
        ])

    def test_rings(self):
        self.assert_cases([
            ("a:b b:a", 3), ("a:b b:c c:a", 4), ("a:c b:a c:b", 4), ("a:b b:c c:d d:a", 5),
            ("a:b b:c c:d d:e e:a", 6), ("a:b b:a c:a d:b e:cd", 6), ("c:d d:e e:c a:c b:a", 6),
        ])

    def test_several_rings(self):
        self.assert_cases([
            ("a:b b:a c:d d:c", 6), ("a:b b:a c:d d:e e:c", 7), ("a:b b:ac c:b", 5), ("a:b b:cd c:a d:a", 5),
            ("a:bc b:ac c:ab", 6), ("a:ab b:bc c:ca", 7), ("a:bcd b:acd c:abd d:abc", 10),
            ("a:bce b:cde c:de d:ea e:ab", 8), ("a:bcd b:cde c:dea d:eab e:abc", 11),
        ])

    def test_columns_that_refer_to_one_table(self):
        # The table with fewer such columns is filled.
        self.assert_cases([
            ("a:bbb b:a", 3), ("a:b b:aaa", 3), ("a:bb b:aaa", 4), ("a:bbb b:aaa", 5),
            ("a:bbb b:cc c:a", 4), ("a:b b:ccc c:aa", 4), ("a:bb b:ccc c:aaa", 5),
            ("a:bbb b:ccc c:ddd d:eee e:aa", 7), ("a:bbb b:ccc c:d d:eee e:aaa", 6),
        ])

    def test_unique_tables_and_others(self):
        for first in FLAGS:
            for second in FLAGS:
                schema = Schema((("a", first, (("x", "b"),)), ("b", second, (("x", "a"), ("y", "b")))))
                self.assert_best(schema, 4)

    def test_names_of_columns_do_not_matter(self):
        for column, table in [("y", "a"), ("z", "b"), ("a", "b"), ("b", "a")]:
            self.assert_best(Schema((("a", True, ((column, "b"),)), ("b", False, (("y", table),)))), 3)

    def test_the_schema_by_name(self):
        schema = schema_of("a:b b:a")
        self.assertEqual(fewest_steps(schema=schema), 3)
        self.assertEqual(len(best_script(schema=schema)), 3)
        self.assertEqual(schema, schema_of("a:b b:a"))

    def test_the_order_of_the_tables_does_not_matter(self):
        for text in ["a:bbb b:cc c:a", "a:b b:cda c:a d:bc", "a:bcd b:cde c:dea d:eab e:abc"]:
            tables = schema_of(text).tables()
            many = fewest(Schema(tables))
            for order in itertools.permutations(tables):
                self.assertEqual(fewest_steps(Schema(order)), many)
                self.assertIs(is_safe(best_script(Schema(order))), True)

    def test_no_shorter_script_is_safe(self):
        for text in ["a:", "b:", "a:a", "b:b", "a:aa", "b:bbb", "a: b:", "a:b b:", "a:bb b:", "a:b b:b", "a:b b:a",
                     "a:bb b:a", "a:bb b:aa", "a:b b:ab", "a: b: c:", "a:b b:c c:"]:
            schema = schema_of(text)
            for many in range(fewest_steps(schema)):
                for steps in itertools.product(all_steps(schema), repeat=many):
                    if is_safe(Script(schema, steps)):
                        self.fail((text, steps))

    def test_no_shorter_script_is_safe_in_a_ring_of_three(self):
        # With all loads in some order, and one step less than it needs for the columns.
        schema = schema_of("a:ba b:c c:a")
        self.assert_best(schema, 5)
        loads = [("load", entry[0], "raw", entry[1]) for entry in schema.tables()]
        for step in all_steps(schema):
            for steps in itertools.permutations(loads + [step]):
                self.assertFalse(is_safe(Script(schema, steps)), steps)

    def test_drawn(self):
        for seed in range(300):
            dice = dice_of(seed)
            schema = draw_schema(dice, 5, 3)
            with self.subTest(seed=seed):
                script = self.assert_best(schema, fewest(schema))
                for _ in range(3):
                    source, target = draw_base(dice, schema), draw_base(dice, schema)
                    self.assertEqual(model_losses(script, source, target, draw_stops(dice, 3, 20)), [])

    def test_five_tables_with_three_columns(self):
        for seed in range(200):
            dice = dice_of(seed)
            schema = schema_of(" ".join([name + ":" + "".join(dice.choices("abcde", k=3)) for name in "abcde"]))
            with self.subTest(seed=seed):
                self.assert_best(schema, fewest(schema))


if __name__ == "__main__":
    unittest.main()
