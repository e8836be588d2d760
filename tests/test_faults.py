"""[13] and [14]: whether scripts are right and safe for all databases, and needless steps."""

import unittest

from carrykeys.bases import Database, Schema
from carrykeys.errors import NoFlag, NotSafe
from carrykeys.faults import first_fault, is_right, is_safe, needless
from carrykeys.judge import losses
from carrykeys.scripts import Script
from model import dice_of, draw_base, draw_schema, draw_step, draw_stops, model_losses
from support import FLAGS, raised, script_of, strange

ONE = Schema((("a", True, ()),))
ANY = Schema((("a", False, ()),))
SELF = Schema((("a", True, (("x", "a"),)),))
SELF_ANY = Schema((("a", False, (("x", "a"),)),))
PAIR = Schema((("a", False, (("x", "b"),)), ("b", True, ())))
UNIQUE_PAIR = Schema((("a", True, (("x", "b"),)), ("b", True, ())))
RING = Schema((("a", False, (("x", "b"),)), ("b", False, (("y", "a"),))))
TWO = Schema((("a", False, (("x", "b"), ("y", "b"))), ("b", False, ())))
THREE = Schema((
    ("a", True, (("x", "b"), ("y", "c"))), ("b", True, (("x", "c"),)), ("c", True, ()),
))
KNOT = Schema((
    ("a", False, (("x", "a"), ("y", "b"))), ("b", True, (("x", "c"),)), ("c", False, (("x", "a"), ("y", "c"))),
))
WIDE = Schema(tuple([
    (name, name in "ace", tuple([(column, target) for column, target in zip("xyz", targets)]))
    for name, targets in zip("abcde", ["abc", "bcd", "cde", "dea", "eab"])
]))

# The steps of a script, in which "load a raw" does not match, and whether it is kept; then what it is.
CASES = [
    (ONE, "load a raw match", True, "safe"),
    (ONE, "load a raw match", False, "safe"),
    (ONE, "load a refuse match; load a blank", True, "safe"),
    (ONE, "load a raw", True, "wrong"),
    (ONE, "load a raw", False, "wrong"),
    (ONE, "load a raw; load a raw match", True, "wrong"),
    (ONE, "", True, "wrong"),
    (ONE, "", False, "wrong"),
    (ANY, "load a raw", True, "safe"),
    (ANY, "load a blank; load a raw match", True, "safe"),
    (ANY, "load a raw", False, "right"),
    (ANY, "load a raw match", True, "wrong"),
    (ANY, "load a raw match", False, "wrong"),
    (ANY, "load a raw match; load a raw", True, "wrong"),
    (SELF, "load a raw match", True, "wrong"),
    (SELF, "load a blank match", True, "wrong"),
    (SELF, "load a raw match; fill a x", True, "safe"),
    (SELF, "load a blank match; fill a x", True, "safe"),
    (SELF, "load a raw match; fill a x", False, "right"),
    (SELF, "load a refuse match; fill a x", True, "wrong"),
    (SELF, "load a raw match; patch a x", True, "wrong"),
    (SELF, "load a blank match; patch a x", True, "wrong"),
    (SELF, "load a raw match; sweep a x", True, "wrong"),
    (SELF, "load a raw match; patch a x; fill a x", True, "safe"),
    (SELF, "load a raw match; patch a x; fill a x", False, "right"),
    (SELF, "load a raw match; fill a x; patch a x", True, "wrong"),
    (SELF, "fill a x; load a raw match", True, "wrong"),
    (SELF, "patch a x; load a raw match; fill a x", True, "safe"),
    (SELF, "fill a x; patch a x; load a raw match; fill a x", True, "safe"),
    (SELF, "sweep a x; load a raw match; fill a x", True, "right"),
    (SELF, "sweep a x; load a raw match; fill a x", False, "right"),
    (SELF, "load a raw match; sweep a x; fill a x", True, "wrong"),
    (SELF, "load a raw match; fill a x; load a refuse", True, "safe"),
    (SELF_ANY, "load a raw; fill a x", True, "safe"),
    (SELF_ANY, "load a raw; fill a x", False, "right"),
    (SELF_ANY, "load a blank; load a refuse match; fill a x", True, "safe"),
    (SELF_ANY, "load a raw; patch a x", True, "wrong"),
    (PAIR, "load b raw match; load a raw", True, "safe"),
    (PAIR, "load b raw match; load a blank", True, "safe"),
    (PAIR, "load b raw match; load a refuse", True, "safe"),
    (PAIR, "load b raw match; load a refuse", False, "right"),
    (PAIR, "load b raw match", True, "wrong"),
    (PAIR, "load a raw", True, "wrong"),
    (PAIR, "load a raw; load b raw match", True, "wrong"),
    (PAIR, "load a refuse; load b raw match; fill a x", True, "wrong"),
    (PAIR, "load a raw; load b refuse match; patch a x", True, "right"),
    (PAIR, "load a raw; load b refuse match; patch a x", False, "right"),
    (PAIR, "load a blank; load b raw match; patch a x", True, "wrong"),
    (PAIR, "load a raw; load b raw match; patch a x; patch a x", True, "wrong"),
    (PAIR, "load a raw; load b raw match; patch a x; fill a x", True, "safe"),
    (PAIR, "load a raw; load b raw match; fill a x; patch a x", True, "wrong"),
    (PAIR, "load a raw; patch a x; load b raw match; patch a x", True, "right"),
    (PAIR, "load a raw; fill a x; load b raw match; patch a x", True, "right"),
    (PAIR, "load a raw; sweep a x; load b raw match; patch a x", True, "right"),
    (PAIR, "load a raw; patch a x; load b raw match; fill a x", True, "safe"),
    (PAIR, "load a raw; sweep a x; load b raw match; fill a x", True, "right"),
    (PAIR, "load a raw; load b raw match; sweep a x", True, "wrong"),
    (PAIR, "load a raw; load b raw match; sweep a x; fill a x", True, "wrong"),
    (PAIR, "load b raw match; sweep a x; load a raw", True, "wrong"),
    (PAIR, "sweep a x; load b raw match; load a raw", True, "right"),
    (PAIR, "load b raw match; load a raw; patch a x", True, "wrong"),
    (PAIR, "load b raw match; load a raw; patch a x; fill a x", True, "safe"),
    (PAIR, "load b raw match; load a raw; fill a x; patch a x", True, "wrong"),
    (PAIR, "load b raw match; patch a x; load a raw", True, "right"),
    (PAIR, "patch a x; load b raw match; load a raw", True, "right"),
    (PAIR, "load b raw match; patch a x; fill a x; load a raw", True, "safe"),
    (PAIR, "patch a x; fill a x; load b raw match; load a raw", True, "safe"),
    (PAIR, "fill a x; patch a x; load b raw match; load a raw", True, "right"),
    (PAIR, "load b raw match; fill a x; load a refuse", True, "safe"),
    (PAIR, "load a blank; load b raw match; fill a x; fill a x", True, "safe"),
    (PAIR, "load b raw match; load a raw; load a refuse match; load b raw", True, "safe"),
    (UNIQUE_PAIR, "load b raw match; load a raw match", False, "safe"),
    (UNIQUE_PAIR, "load b raw match; load a raw match; fill a x", False, "safe"),
    (UNIQUE_PAIR, "load b raw match; load a raw match; patch a x; fill a x", False, "right"),
    (UNIQUE_PAIR, "load b raw match; load a raw match; patch a x; fill a x", True, "safe"),
    (UNIQUE_PAIR, "load b raw match; load a raw match; fill a x; patch a x", False, "wrong"),
    (UNIQUE_PAIR, "load b raw match; patch a x; load a raw match", False, "safe"),
    (UNIQUE_PAIR, "load b raw match; patch a x; load a raw match", True, "right"),
    (UNIQUE_PAIR, "sweep a x; load b raw match; load a raw match", False, "safe"),
    (UNIQUE_PAIR, "load b raw match; sweep a x; load a raw match", False, "wrong"),
    (UNIQUE_PAIR, "load b raw match; load a raw match; sweep a x", False, "wrong"),
    (UNIQUE_PAIR, "load a raw match; load b raw match; fill a x", False, "right"),
    (UNIQUE_PAIR, "load a raw match; load b raw match; fill a x", True, "safe"),
    (UNIQUE_PAIR, "load a raw match; load b raw match; patch a x", False, "right"),
    (UNIQUE_PAIR, "load a raw match; load b raw match; load a raw match", True, "wrong"),
    (UNIQUE_PAIR, "load b raw match; load a refuse match", False, "safe"),
    (UNIQUE_PAIR, "load b raw match; load a raw; load a raw match", False, "wrong"),
    (RING, "load a raw; load b raw; fill a x", True, "safe"),
    (RING, "load a raw; load b refuse; fill a x", True, "safe"),
    (RING, "load a raw; load b raw; patch a x", True, "right"),
    (RING, "load a raw; load b raw; patch a x; patch b y", True, "wrong"),
    (RING, "load a raw; load b raw; fill b y", True, "wrong"),
    (RING, "load b blank; load a raw; fill b y", True, "safe"),
    (RING, "load b blank; load a raw; patch b y", True, "wrong"),
    (RING, "load b raw; load a raw; fill b y; fill a x", False, "right"),
    (TWO, "load a raw; load b raw; fill a x; fill a y", True, "safe"),
    (TWO, "load a raw; load b raw; fill a x", True, "wrong"),
    (TWO, "load a raw; load b raw; fill a x; patch a y", True, "right"),
    (TWO, "load a raw; load b raw; fill a y; fill a x; patch a y", True, "wrong"),
    (TWO, "load a raw; load b raw; patch a y; fill a x; fill a y", True, "safe"),
    (THREE, "load c raw match; load b refuse match; load a refuse match", True, "safe"),
    (THREE, "load c raw match; load b refuse match; load a refuse match", False, "safe"),
    (THREE, "load c raw match; load a raw match; load b raw match; fill a x", True, "safe"),
    (THREE, "load c raw match; load a raw match; load b raw match; fill a x", False, "right"),
    (THREE, "load c raw match; load a raw match; load b raw match; fill a y", True, "wrong"),
    (THREE, "load c raw match; load a raw match; load b raw match; patch a x", True, "right"),
    (THREE, "load b raw match; load c raw match; load a refuse match; patch b x", True, "right"),
    (THREE, "load c raw match; load b raw match; sweep a x; load a raw match", True, "wrong"),
    (THREE, "load c raw match; sweep a x; load b raw match; load a raw match", False, "safe"),
    (KNOT, "load a raw; load c raw; load b raw match; fill a x; fill c y; fill a y", True, "safe"),
    (KNOT, "load a raw; load c raw; load b raw match; fill a x; fill c y; patch a y", True, "right"),
    (KNOT, "load a raw; load c raw; load b raw match; fill a x; patch c y; fill a y", True, "wrong"),
    (KNOT, "load a raw; load c raw; load b raw match; fill a x; fill c y; fill a y; sweep c x", True, "wrong"),
    (KNOT, "load a raw; fill a x; load c raw; fill c y; load b raw match; fill a y; patch b x", True, "wrong"),
    (KNOT, "load a raw; fill a x; load c raw; fill c y; patch b x; load b raw match; fill a y", True, "right"),
]


def draw_shaped(dice, schema):
    """Return a script that loads each table, most often as it should, with some steps for the columns between."""
    steps = [("load", name, dice.choice(["raw", "raw", "blank", "refuse"]), unique if dice.random() < 0.95 else not unique)
             for name, unique, _ in schema.tables()]
    dice.shuffle(steps)
    columns = schema.all_columns()
    for _ in range(dice.randint(0, 2 * len(columns))):
        word = dice.choice(["patch", "patch", "fill", "fill", "fill", "sweep"])
        steps.insert(dice.randint(dice.choice([0, len(steps) // 2]), len(steps)), (word, *dice.choice(columns)))
    if dice.random() < 0.2:
        steps.insert(dice.randint(0, len(steps)), draw_step(dice, schema))
    return Script(schema, tuple(steps), dice.random() < 0.6)


class Checks(unittest.TestCase):
    def assert_fault(self, script, fault, stopped):
        """Check what first_fault returned for a script that is not safe, or not right."""
        self.assertIs(fault.__class__, tuple)
        source, target, stops = fault
        for base, most in [(source, 3), (target, 1)]:
            self.assertIs(base.__class__, Database)
            self.assertEqual(base.schema(), script.schema())
            self.assertTrue(base.is_closed())
            for entry in script.schema().tables():
                rows = base.rows(entry[0])
                self.assertLessEqual(len(rows), most)
                self.assertTrue(all([key < 10 ** 29 for key, _ in rows]))
        self.assertIs(stops.__class__, tuple)
        self.assertLessEqual(len(stops), 1 if stopped else 0)
        self.assertNotEqual(losses(script, source, target, stops), [])
        self.assertNotEqual(model_losses(script, source, target, stops), [])

    def assert_answers(self, script, right, safe):
        self.assertIs(is_right(script), right)
        self.assertIs(is_safe(script), safe)
        for stopped, good in [(False, right), (True, safe)]:
            fault = first_fault(script, stopped)
            if good:
                self.assertIsNone(fault)
            else:
                self.assert_fault(script, fault, stopped)

    def assert_nothing_lost(self, script, dice, many):
        """Check with drawn databases that a script is right or safe if it is said to be."""
        schema = script.schema()
        for _ in range(many):
            source, target = draw_base(dice, schema, 4, 7), draw_base(dice, schema, 3, 5)
            if is_right(script):
                self.assertEqual(model_losses(script, source, target), [])
            if is_safe(script):
                self.assertEqual(model_losses(script, source, target, draw_stops(dice, 3, 3 * len(script))), [])


class FaultsTest(Checks):
    """[13]"""

    def test_cases(self):
        for number, (schema, text, kept, told) in enumerate(CASES):
            with self.subTest(number=number, text=text, kept=kept):
                self.assert_answers(script_of(schema, text, kept), told != "wrong", told == "safe")

    def test_cases_with_drawn_databases(self):
        for number, (schema, text, kept, _) in enumerate(CASES):
            with self.subTest(number=number, text=text, kept=kept):
                self.assert_nothing_lost(script_of(schema, text, kept), dice_of(number), 20)

    def test_columns_of_their_own(self):
        # What is done to one column is of no use for the other one.
        for first, second in [("x", "y"), ("y", "x")]:
            script = script_of(TWO, f"load a raw; load b raw; fill a {first}; patch a {second}; fill a {first}")
            self.assert_answers(script, True, False)
            script = script_of(TWO, f"load b raw; load a raw; patch a {first}; fill a {second}")
            self.assert_answers(script, False, False)

    def test_one_name_for_columns_of_two_tables(self):
        schema = Schema((("a", False, (("x", "c"),)), ("b", False, (("x", "c"),)), ("c", False, ())))
        loads = "load a raw; load b raw; load c raw; "
        self.assert_answers(script_of(schema, loads + "fill a x; fill b x"), True, True)
        self.assert_answers(script_of(schema, loads + "fill a x; fill a x"), False, False)
        self.assert_answers(script_of(schema, loads + "fill b x; fill b x"), False, False)
        self.assert_answers(script_of(schema, loads + "fill a x; fill b x; patch a x"), False, False)
        self.assert_answers(script_of(schema, loads + "fill a x; patch b x"), True, False)

    def test_no_flag(self):
        for number, stopped in strange(0, 1, "stopped", ()):
            with self.subTest(number=number):
                for schema, text in [(ONE, "load a raw match"), (ONE, "")]:
                    raised(self, NoFlag, first_fault, script_of(schema, text), stopped)
                    raised(self, NoFlag, first_fault, script_of(schema, text), stopped=stopped)

    def test_stopped(self):
        script = script_of(ANY, "load a raw", False)
        self.assertIsNone(first_fault(script, False))
        self.assertIsNone(first_fault(script, stopped=False))
        for fault in [first_fault(script), first_fault(script, True), first_fault(script, stopped=True)]:
            self.assert_fault(script, fault, True)
            self.assertEqual(len(fault[2]), 1)

    def test_what_is_returned_is_new(self):
        for text in ["", "load b raw match; load a raw; patch a x", "load b raw match; patch a x; load a raw"]:
            script = script_of(PAIR, text)
            for base in first_fault(script)[:2]:
                for table in ("a", "b"):
                    for key, _ in base.rows(table):
                        base.drop(table, key)
            self.assert_fault(script, first_fault(script), True)

    def test_all_short_scripts_for_one_table(self):
        for schema in (SELF, SELF_ANY):
            steps = [("load", "a", missing, match) for missing in ("raw", "blank", "refuse") for match in FLAGS]
            steps += [(word, "a", "x") for word in ("patch", "fill", "sweep")]
            for number in range(9 ** 3):
                chosen = (steps[number // 81], steps[number // 9 % 9], steps[number % 9])
                for kept in FLAGS:
                    with self.subTest(chosen=chosen, kept=kept):
                        script = Script(schema, chosen, kept)
                        self.assert_answers(script, first_fault(script, False) is None, first_fault(script) is None)
                        self.assert_nothing_lost(script, dice_of(number), 4)

    def test_drawn(self):
        many = {}
        for seed in range(2500):
            dice = dice_of(seed)
            script = draw_shaped(dice, draw_schema(dice, 3, 2))
            answer = script.kept, is_right(script), is_safe(script)
            many[answer] = many.get(answer, 0) + 1
            with self.subTest(seed=seed):
                self.assert_answers(script, first_fault(script, False) is None, first_fault(script) is None)
                self.assert_nothing_lost(script, dice, 8)
        # Each kind of script must be among those that were drawn; none is safe but not right.
        for kept in FLAGS:
            for right, safe in [(True, True), (True, False), (False, False)]:
                self.assertGreater(many[kept, right, safe], 20)
            self.assertNotIn((kept, False, True), many)


class NeedlessTest(unittest.TestCase):
    """[14]"""

    def assert_needless(self, indexes, schema, text, kept=True):
        script = script_of(schema, text, kept)
        found = needless(script)
        self.assertEqual(found, indexes)
        self.assertIs(found.__class__, list)
        found.append(7)
        self.assertEqual(needless(script), indexes)
        self.assertEqual(indexes, [index for index in range(len(script)) if is_safe(script.without(index))])

    def test_none(self):
        self.assert_needless([], ONE, "load a raw match")
        self.assert_needless([], SELF, "load a raw match; fill a x")
        self.assert_needless([], RING, "load a raw; load b raw; fill a x")
        self.assert_needless([], THREE, "load c raw match; load b raw match; load a raw match", False)

    def test_each_alone(self):
        self.assert_needless([0, 1], ANY, "load a raw; load a blank")
        self.assert_needless([0, 1, 2], ANY, "load a raw; load a blank; load a refuse")
        self.assert_needless([1, 2], SELF, "load a raw match; fill a x; fill a x")
        self.assert_needless([1], ONE, "load a raw match; load a raw")
        self.assert_needless([1], ANY, "load a raw; load a raw match")

    def test_ascending(self):
        steps = "load a raw match; patch a x; fill a x; patch a x; load a raw; fill a x; load a blank match"
        self.assert_needless([1, 2, 3, 4, 6], SELF, steps)

    def test_a_fill_that_only_a_patch_needs(self):
        self.assert_needless([0], PAIR, "patch a x; fill a x; load b raw match; load a raw")
        self.assert_needless([0], PAIR, "patch a x; load b raw match; load a raw; fill a x")
        self.assert_needless([2], PAIR, "load b raw match; load a raw; fill a x")

    def test_a_step_without_which_another_order_is_safe(self):
        # Without the first load all cells are right at once, and the fill is only one that does no harm.
        self.assert_needless([0, 2], PAIR, "load a raw; load b raw match; load a raw; fill a x")
        self.assert_needless([], PAIR, "load a raw; load b raw match; fill a x")
        self.assert_needless([2], PAIR, "load b raw match; load a raw; fill a x")

    def test_without_a_mapping(self):
        self.assert_needless([0, 2, 4], UNIQUE_PAIR,
                             "sweep a x; load b raw match; patch a x; load a refuse match; fill a x", False)
        self.assert_needless([], UNIQUE_PAIR, "load b raw match; load a raw match", False)

    def test_not_safe(self):
        for schema, text, kept, told in CASES:
            if told != "safe":
                with self.subTest(text=text, kept=kept):
                    raised(self, NotSafe, needless, script_of(schema, text, kept))

    def test_safe_scripts(self):
        for schema, text, kept, told in CASES:
            if told == "safe":
                with self.subTest(text=text, kept=kept):
                    script = script_of(schema, text, kept)
                    for index in range(len(script)):
                        self.assertEqual(index in needless(script), first_fault(script.without(index)) is None)


class LimitsTest(Checks):
    """Scripts of 20 steps over five tables with three columns each."""

    loads = [("load", name, "raw", unique) for name, unique, _ in WIDE.tables()]
    fills = [("fill", table, column) for table, column in WIDE.all_columns()]
    # Those of d.z, e.y and e.z, which lead to tables that are loaded ahead of their own.
    needless_fills = [11, 13, 14]

    def test_all_loads_and_fills(self):
        script = Script(WIDE, tuple(self.loads + self.fills))
        self.assert_answers(script, True, True)
        self.assertEqual(needless(script), [5 + at for at in self.needless_fills])

    def test_all_loads_and_fills_without_a_mapping(self):
        self.assert_answers(Script(WIDE, tuple(self.loads + self.fills), False), True, False)

    def test_one_fill_less(self):
        for at in range(15):
            with self.subTest(at=at):
                script = Script(WIDE, tuple(self.loads + self.fills[:at] + self.fills[at + 1:] + self.loads[:1]))
                self.assert_answers(script, at in self.needless_fills, at in self.needless_fills)

    def test_a_fault_in_the_last_step(self):
        for word in ("patch", "sweep"):
            for table, column in WIDE.all_columns():
                steps = self.loads + [step for step in self.fills if step != ("fill", table, column)]
                script = Script(WIDE, tuple(steps + [(word, table, column)]))
                with self.subTest(word=word, table=table, column=column):
                    fault = first_fault(script)
                    self.assert_fault(script, fault, True)

    def test_one_step_twenty_times(self):
        for step in self.loads[:2] + self.fills[:2] + [("patch", "a", "x"), ("sweep", "e", "z")]:
            for kept in FLAGS:
                self.assert_answers(Script(WIDE, (step,) * 20, kept), False, False)

    def test_drawn(self):
        for seed in range(150):
            dice = dice_of(seed)
            steps = self.loads + [draw_step(dice, WIDE) for _ in range(15)]
            if seed < 75:
                dice.shuffle(steps)
            script = Script(WIDE, tuple(steps), dice.choice(FLAGS))
            with self.subTest(seed=seed):
                self.assert_answers(script, first_fault(script, False) is None, first_fault(script) is None)
                if not is_safe(script):
                    raised(self, NotSafe, needless, script)


if __name__ == "__main__":
    unittest.main()
