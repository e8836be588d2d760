"""[16]: whether two scripts are alike."""

import unittest

from carrykeys.alike import told_apart
from carrykeys.bases import Database, Schema
from carrykeys.errors import NotSame, Refused
from carrykeys.runs import run
from carrykeys.scripts import Script
from model import dice_of, draw_base, draw_schema, draw_script, draw_step, meaning, model_end
from support import FLAGS, contents, raised, script_of

ONE = Schema((("a", True, ()),))
ANY = Schema((("a", False, ()),))
SELF = Schema((("a", True, (("x", "a"),)),))
SELF_ANY = Schema((("a", False, (("x", "a"),)),))
PAIR = Schema((("a", False, (("x", "b"),)), ("b", True, ())))
ANY_PAIR = Schema((("a", False, (("x", "b"),)), ("b", False, ())))
RING = Schema((("a", True, (("x", "b"), ("y", "a"))), ("b", False, (("x", "a"),))))
APART = Schema((("a", False, (("x", "c"),)), ("b", True, (("x", "c"),)), ("c", True, ())))
WIDE = Schema(tuple([
    (name, name in "ace", tuple([(column, target) for column, target in zip("xyz", targets)]))
    for name, targets in zip("abcde", ["abc", "bcd", "cde", "dea", "eab"])
]))

# Two scripts for a schema that are alike.
ALIKE = [
    (ONE, "", ""),
    (ONE, "load a raw match", "load a raw match"),
    # Another word where no row can be missing.
    (ONE, "load a raw", "load a blank"),
    (ONE, "load a raw match", "load a refuse match"),
    (PAIR, "load b raw match; load a raw", "load b blank match; load a refuse"),
    (PAIR, "load b raw; load a blank", "load b raw; load a refuse"),
    (PAIR, "load b raw", "load b refuse"),
    (SELF, "load a raw match; fill a x", "load a blank match; fill a x"),
    (PAIR, "load a raw; load b raw match; fill a x", "load a blank; load b raw match; fill a x"),
    # A second load of a table.
    (ONE, "load a raw match; load a raw", "load a raw match"),
    (ANY, "load a raw; load a raw match; load a refuse", "load a blank"),
    (SELF, "load a raw match; load a refuse match", "load a raw match"),
    (PAIR, "load b raw; load a raw; load b raw match; load a refuse match", "load b raw; load a raw"),
    # Steps that have nothing to do with one another.
    (RING, "load a raw; load b raw; patch a y; fill b x", "load a raw; load b raw; fill b x; patch a y"),
    (RING, "load a raw; patch a y; load b raw", "load a raw; load b raw; patch a y"),
    (RING, "load a raw; sweep a y; load b raw", "load a raw; load b raw; sweep a y"),
    (APART, "load a raw; load b raw; load c raw", "load b raw; load a raw; load c raw"),
    (APART, "load c raw; load a raw; load b raw", "load c raw; load b raw; load a raw"),
    (APART, "load c raw; patch a x; load b raw", "load c raw; load b raw"),
    (APART, "load c raw; sweep a x; load b raw; sweep b x", "load c raw; load b raw; sweep b x; sweep a x"),
    # Steps that change nothing.
    (SELF, "patch a x; fill a x; sweep a x; load a raw", "load a raw"),
    (SELF, "patch a x; fill a x; sweep a x", ""),
    (SELF, "load a raw; fill a x; fill a x", "load a raw; fill a x"),
    (SELF, "load a raw; patch a x; fill a x", "load a raw; fill a x"),
    (PAIR, "load a raw; patch a x; fill a x; sweep a x; load b raw", "load a raw; load b raw"),
    (PAIR, "load a raw; patch a x; fill a x; sweep a x", "load a raw"),
    (PAIR, "load b raw; patch a x; fill a x", "load b raw"),
    (PAIR, "load b raw; load a raw; fill a x", "load b raw; load a raw"),
    (PAIR, "load b raw; patch a x; load a raw", "load b raw; load a raw"),
    # Other ways to the same cells.
    (PAIR, "load a raw; load b raw; patch a x", "load b raw; load a raw"),
    (PAIR, "load a raw; load b raw; fill a x", "load b raw; load a blank"),
    (PAIR, "load a raw; load b raw; patch a x; patch a x", "load b raw; load a raw; patch a x"),
    (PAIR, "load b raw; load a raw; sweep a x", "load b raw; sweep a x; load a raw; patch a x"),
    (PAIR, "load b raw; load a raw; sweep a x; fill a x", "load b raw; sweep a x; load a raw"),
    (PAIR, "load a raw; load b raw; sweep a x", "load b raw; sweep a x; load a raw"),
    (SELF, "load a raw; sweep a x; patch a x", "load a raw; patch a x; sweep a x"),
    # What is refused is so in both, whatever is done to it.
    (PAIR, "load a refuse; load b raw", "load a refuse; load b raw; patch a x; fill a x"),
    (PAIR, "load a refuse", "load a refuse; patch a x; fill a x; sweep a x"),
    (PAIR, "load a refuse match", "load a refuse match; load a raw"),
    (PAIR, "load a refuse; load b raw; sweep a x", "load a refuse; load b raw; fill a x; sweep a x; patch a x"),
    (ONE, "load a raw", "load a raw; load a raw match"),
    (SELF, "load a refuse; fill a x", "load a refuse"),
]

# Two scripts for a schema that differ, and which of them are refused at the databases that are returned.
UNLIKE = [
    # The tables that are loaded.
    (ONE, "", "load a raw match", ""),
    (ANY, "load a raw", "", ""),
    (ANY, "load a raw match", "", ""),
    (PAIR, "load a raw", "load a raw; load b raw match", ""),
    (PAIR, "load a raw", "load b raw match", ""),
    # Match.
    (ANY, "load a raw", "load a raw match", ""),
    (ONE, "load a raw", "load a raw match", "first"),
    (ONE, "load a raw match", "load a raw", "second"),
    (ONE, "load a raw; load a raw match", "load a raw match; load a raw", "first"),
    (ANY, "load a raw; load a raw match", "load a raw match; load a raw", ""),
    (PAIR, "load b raw match; load a raw", "load b raw match; load a raw match", ""),
    # The order of two loads.
    (PAIR, "load a raw; load b raw", "load b raw; load a raw", ""),
    (PAIR, "load a blank; load b raw", "load b raw; load a blank", ""),
    (PAIR, "load a refuse; load b raw", "load b raw; load a refuse", "first"),
    (APART, "load a raw; load b raw; load c raw", "load a raw; load c raw; load b raw", ""),
    # The word for missing rows.
    (PAIR, "load a raw", "load a blank", ""),
    (PAIR, "load a raw", "load a refuse", "second"),
    (PAIR, "load a refuse; load b raw", "load a blank; load b raw", "first"),
    (PAIR, "load a raw; load b raw", "load a blank; load b raw", ""),
    (PAIR, "load a raw; load b raw; fill a x", "load a refuse; load b raw; fill a x", "second"),
    (SELF, "load a raw", "load a blank", ""),
    (SELF, "load a raw match", "load a refuse match", "second"),
    (SELF, "load a refuse; fill a x", "load a blank; fill a x", "first"),
    (SELF_ANY, "load a raw; patch a x", "load a blank; patch a x", ""),
    (RING, "load a refuse; load b raw", "load a raw; load b refuse", "first"),
    # How often a column is patched or swept.
    (PAIR, "load b raw; load a raw", "load b raw; load a raw; patch a x", ""),
    (PAIR, "load a raw; load b raw", "load a raw; load b raw; patch a x", ""),
    (PAIR, "load a raw; load b raw; patch a x", "load a raw; load b raw; patch a x; patch a x", ""),
    (SELF, "load a raw; patch a x", "load a raw", ""),
    (SELF, "load a blank; patch a x", "load a blank", ""),
    (SELF, "load a refuse; patch a x", "load a refuse", ""),
    (SELF, "load a refuse; patch a x", "load a refuse; patch a x; patch a x", ""),
    (SELF, "load a raw; sweep a x", "load a raw; sweep a x; sweep a x", ""),
    (PAIR, "load b raw; sweep a x", "load b raw; sweep a x; sweep a x", ""),
    (RING, "load a raw; load b raw; patch a x", "load a raw; load b raw; patch a y", ""),
    # A fill ahead of a patch or behind it.
    (SELF, "load a raw; fill a x; patch a x", "load a raw; patch a x; fill a x", ""),
    (PAIR, "load a raw; load b raw; fill a x; patch a x", "load a raw; load b raw; patch a x; fill a x", ""),
    (PAIR, "load a raw; fill a x; load b raw", "load a raw; load b raw; fill a x", ""),
    (SELF, "load a raw; fill a x", "load a raw; patch a x", ""),
    (SELF, "load a blank; fill a x", "load a blank", ""),
    # Old rows that are swept.
    (PAIR, "load b raw; sweep a x", "load b raw", ""),
    (PAIR, "load b raw; sweep a x", "sweep a x; load b raw", ""),
    (PAIR, "load b raw; load a raw; sweep a x", "load b raw; load a raw; patch a x", ""),
    (PAIR, "load b raw; load a raw; sweep a x; fill a x", "load b raw; load a raw", ""),
    (PAIR, "load a refuse; load b raw; sweep a x", "load a refuse; load b raw", ""),
    (SELF, "load a raw; sweep a x", "load a raw; patch a x", ""),
    (SELF, "load a refuse; sweep a x; fill a x", "load a refuse; fill a x", ""),
    (PAIR, "load b raw; load a raw; sweep a x", "load b raw; sweep a x; load a raw", ""),
]


class Checks(unittest.TestCase):
    def assert_alike(self, script, other):
        self.assertIsNone(told_apart(script, other))
        self.assertIsNone(told_apart(other, script))

    def assert_told_apart(self, script, other, refused=None):
        for first, second in [(script, other), (other, script)]:
            found = told_apart(first, second)
            self.assertIs(found.__class__, tuple)
            source, target = found
            self.assert_small(script.schema(), source, 30)
            self.assert_small(script.schema(), target, 1)
            ends = [model_end(script, source, target), model_end(other, source, target)]
            self.assertNotEqual(ends[0], ends[1])
            self.assertNotEqual(self.end(script, source, target), self.end(other, source, target))
            if refused is not None:
                self.assertEqual([end is None for end in ends], [refused == "first", refused == "second"])

    def assert_small(self, schema, base, most):
        self.assertIs(base.__class__, Database)
        self.assertEqual(base.schema(), schema)
        self.assertIs(base.is_closed(), True)
        for _, rows in contents(base):
            self.assertLessEqual(len(rows), most)
            self.assertTrue(all([key < 10 ** 29 for key, _ in rows]))

    def end(self, script, source, target):
        try:
            return run(script, source, target).target()
        except Refused:
            return None

    def assert_right_answer(self, script, other):
        """Check the answer with what the steps come to; tell whether the scripts are alike."""
        if meaning(script) == meaning(other):
            self.assert_alike(script, other)
            return True
        self.assert_told_apart(script, other)
        return False

    def assert_agree(self, script, other, dice, many):
        for _ in range(many):
            source, target = draw_base(dice, script.schema(), 4, 7), draw_base(dice, script.schema(), 3, 5)
            self.assertEqual(model_end(script, source, target), model_end(other, source, target))


class AlikeTest(Checks):
    def test_alike(self):
        for number, (schema, text, other_text) in enumerate(ALIKE):
            with self.subTest(number=number, text=text, other=other_text):
                script, other = script_of(schema, text), script_of(schema, other_text)
                self.assert_alike(script, other)
                self.assert_agree(script, other, dice_of(number), 30)

    def test_unlike(self):
        for number, (schema, text, other_text, refused) in enumerate(UNLIKE):
            with self.subTest(number=number, text=text, other=other_text):
                self.assert_told_apart(script_of(schema, text), script_of(schema, other_text), refused)

    def test_a_script_against_itself(self):
        for schema, text, other_text, *_ in ALIKE + UNLIKE:
            for script in (script_of(schema, text), script_of(schema, other_text)):
                self.assertIsNone(told_apart(script, script))
                self.assertIsNone(told_apart(script, Script(schema, script.steps())))

    def test_kept_does_not_matter(self):
        for schema, text, other_text in ALIKE:
            for kept in FLAGS:
                self.assert_alike(script_of(schema, text, kept), script_of(schema, other_text, not kept))
                self.assert_alike(script_of(schema, text, kept), script_of(schema, text, not kept))
        for schema, text, other_text, refused in UNLIKE:
            for kept in FLAGS:
                self.assert_told_apart(
                    script_of(schema, text, kept), script_of(schema, other_text, not kept), refused)

    def test_each_table_of_five(self):
        loads = [("load", name, "raw", unique) for name, unique, _ in WIDE.tables()]
        script = Script(WIDE, tuple(loads))
        for at, (word, name, missing, match) in enumerate(loads):
            with self.subTest(name=name):
                self.assert_told_apart(script, script.without(at))
                steps = loads[:at] + [(word, name, missing, not match)] + loads[at + 1:]
                self.assert_told_apart(script, Script(WIDE, tuple(steps)))
                steps = loads[:at] + [(word, name, "refuse", match)] + loads[at + 1:]
                self.assert_told_apart(script, Script(WIDE, tuple(steps)))
                self.assert_alike(script, Script(WIDE, tuple(loads + loads[at:])))

    def test_each_column_of_fifteen(self):
        script = Script(WIDE, tuple([("load", name, "raw", unique) for name, unique, _ in WIDE.tables()]))
        for place in WIDE.all_columns():
            with self.subTest(place=place):
                for word in ("patch", "sweep"):
                    self.assert_told_apart(script, script + Script(WIDE, ((word, *place),)))
                self.assert_alike(script, Script(WIDE, (("fill", *place),)) + script)
                filled = script + Script(WIDE, (("fill", *place),))
                self.assert_right_answer(script, filled)
                self.assert_told_apart(filled + Script(WIDE, (("patch", *place),)), filled)

    def test_two_calls_return_independent_databases(self):
        for schema, text, other_text, refused in UNLIKE:
            script, other = script_of(schema, text), script_of(schema, other_text)
            for base in told_apart(script, other):
                for table, rows in contents(base):
                    for key, _ in rows:
                        base.drop(table, key)
            self.assert_told_apart(script, other, refused)
            (source, target), (source_again, _) = told_apart(script, other), told_apart(script, other)
            self.assertEqual(source, source_again)
            target[schema.tables()[0][0], 77] = (77, tuple([None for _ in schema.tables()[0][2]]))
            self.assertNotEqual(target, told_apart(script, other)[1])

    def test_arguments(self):
        script, other = script_of(ONE, "load a raw"), script_of(ONE, "load a raw match")
        self.assertIsNone(told_apart(script, other=script))
        self.assertIsNotNone(told_apart(script, other=other))
        self.assertEqual(script, script_of(ONE, "load a raw"))
        self.assertEqual(other, script_of(ONE, "load a raw match"))

    def test_not_same(self):
        for schema in (ONE, ANY, SELF, PAIR, RING):
            for other in (ONE, ANY, SELF, PAIR, RING):
                if schema != other:
                    raised(self, NotSame, told_apart, Script(schema, ()), Script(other, ()))
                    raised(self, NotSame, told_apart, Script(schema, ()), other=Script(other, ()))
        self.assertIsNone(told_apart(Script(ONE, ()), Script(Schema((("a", True, ()),)), ())))
        backward = Schema(tuple(reversed(PAIR.tables())))
        raised(self, NotSame, told_apart, script_of(PAIR, "load b raw"), script_of(backward, "load b raw"))


class ChainTest(Checks):
    """A column that is changed so often that only a long chain of keys tells two scripts apart."""

    def assert_chain(self, schema, loads, word, least=0):
        """Check all scripts of some loads and then the same step, as often as fits."""
        step = (word, "a", "x")
        scripts = [Script(schema, tuple(loads) + (step,) * many) for many in range(least, 21 - len(loads))]
        for script, other in zip(scripts, scripts[1:]):
            self.assert_told_apart(script, other)
        self.assert_told_apart(scripts[0], scripts[-1])
        self.assert_alike(scripts[-1], scripts[-1])

    def test_patches(self):
        for match in FLAGS:
            for schema in (SELF, SELF_ANY):
                for missing in ("raw", "refuse"):
                    self.assert_chain(schema, [("load", "a", missing, match)], "patch")
            for schema in (PAIR, ANY_PAIR):
                loads = [("load", "a", "raw", match), ("load", "b", "raw", match)]
                self.assert_chain(schema, loads, "patch")
                self.assert_chain(schema, loads[::-1], "patch")

    def test_sweeps(self):
        for match in FLAGS:
            for schema in (SELF, SELF_ANY):
                for missing in ("raw", "blank", "refuse"):
                    self.assert_chain(schema, [("load", "a", missing, match)], "sweep")
            for schema in (PAIR, ANY_PAIR):
                loads = [("load", "a", "refuse", match), ("load", "b", "raw", match)]
                self.assert_chain(schema, loads, "sweep")
                self.assert_chain(schema, loads[1:], "sweep")

    def test_behind_a_fill(self):
        for schema, text in [(SELF, "load a blank; fill a x"), (PAIR, "load a raw; load b raw; fill a x")]:
            self.assert_chain(schema, script_of(schema, text).steps(), "patch")

    def test_a_load_in_the_place_of_a_patch(self):
        late, early = script_of(PAIR, "load a raw; load b raw"), script_of(PAIR, "load b raw; load a raw")
        for many in range(18):
            patches = Script(PAIR, (("patch", "a", "x"),) * many)
            one_more = Script(PAIR, (("patch", "a", "x"),) * (many + 1))
            self.assert_alike(late + one_more, early + patches)
            self.assert_told_apart(late + patches, early + patches)
            self.assert_told_apart(late + one_more, early + one_more)

    def test_patches_in_the_place_of_sweeps(self):
        load = script_of(SELF, "load a refuse")
        for many in range(1, 19):
            sweeps = Script(SELF, (("sweep", "a", "x"),) * many)
            other = Script(SELF, (("sweep", "a", "x"),) * (many - 1) + (("patch", "a", "x"),))
            self.assert_told_apart(load + sweeps, load + other)
            filled = Script(SELF, (("fill", "a", "x"),))
            self.assert_told_apart(load + sweeps + filled, load + other + filled)

    def test_two_chains(self):
        # The columns are changed by turns, in either order, and at last just one of them.
        script = script_of(RING, "load a raw match; load b blank; " + "; ".join(["patch a x", "sweep a y"] * 8))
        other = script_of(RING, "load a raw match; load b blank; " + "; ".join(["sweep a y", "patch a x"] * 8))
        self.assert_alike(script, other)
        for step in (("patch", "a", "x"), ("sweep", "a", "y"), ("patch", "b", "x"), ("patch", "a", "y")):
            last = Script(RING, (step,))
            self.assert_alike(script + last, other + last)
            self.assert_right_answer(script + last, other)
        self.assert_told_apart(script + script_of(RING, "patch a x"), other)
        self.assert_told_apart(script + script_of(RING, "sweep a y"), other)
        self.assert_alike(script + script_of(RING, "load b refuse match"), other)


class DrawnTest(Checks):
    def changed(self, dice, script):
        """Return a script with a few steps that are exchanged, left out, put in or told otherwise."""
        steps = list(script.steps())
        for _ in range(dice.randint(1, 3)):
            at = dice.randint(0, len(steps))
            chance = dice.randint(0, 4)
            if chance == 0 and at + 1 < len(steps):
                steps[at], steps[at + 1] = steps[at + 1], steps[at]
            elif chance == 1 and at < len(steps):
                steps.pop(at)
            elif chance == 2 and at < len(steps) and steps[at][0] == "load":
                steps[at] = (*steps[at][:2], dice.choice(["raw", "blank", "refuse"]), steps[at][3])
            elif chance == 3 and at < len(steps) and steps[at][0] != "load":
                steps[at] = (dice.choice(["patch", "fill", "sweep"]), *steps[at][1:])
            else:
                steps.insert(at, draw_step(dice, script.schema()))
        return Script(script.schema(), tuple(steps), dice.choice(FLAGS))

    def test_drawn(self):
        many = {True: 0, False: 0}
        for seed in range(700):
            dice = dice_of(seed)
            schema = draw_schema(dice, 3, 2)
            script = draw_script(dice, schema, 10)
            other = self.changed(dice, script)
            with self.subTest(seed=seed):
                answer = self.assert_right_answer(script, other)
                many[answer] += 1
                if answer:
                    self.assert_agree(script, other, dice, 6)
        self.assertGreater(min(many.values()), 200)

    def test_all_short_scripts_for_one_table(self):
        for schema in (SELF, SELF_ANY):
            steps = [("load", "a", missing, match) for missing in ("raw", "blank", "refuse") for match in FLAGS]
            steps += [(word, "a", "x") for word in ("patch", "fill", "sweep")]
            scripts = [Script(schema, chosen) for chosen in
                       [()] + [(first,) for first in steps] + [(first, second) for first in steps for second in steps]]
            kinds = []
            for script in scripts:
                like = [other for other in kinds if told_apart(script, other) is None]
                self.assertEqual([meaning(other) for other in like], [meaning(script) for _ in like])
                if not like:
                    self.assertNotIn(meaning(script), [meaning(other) for other in kinds])
                    kinds.append(script)
            # No load; or a load that matches or not, with "raw" and one of four endings, or with "blank"
            # or "refuse" and one of three: a fill makes the same of "blank" as of "raw", and nothing of "refuse".
            self.assertEqual(len(kinds), 1 + 2 * (4 + 3 + 3))

    def test_alike_scripts_agree_for_drawn_databases(self):
        for seed in range(60):
            dice = dice_of(seed)
            schema = draw_schema(dice, 2, 2)
            scripts = [draw_script(dice, schema, 4) for _ in range(8)]
            pairs = [(script, other) for script in scripts for other in scripts if script != other]
            for script, other in pairs:
                if told_apart(script, other) is None:
                    self.assert_agree(script, other, dice, 4)


class LimitsTest(Checks):
    """Scripts of 20 steps over five tables with three columns each."""

    loads = [("load", name, "raw", unique) for name, unique, _ in WIDE.tables()]

    def test_drawn(self):
        for seed in range(30):
            dice = dice_of(seed)
            steps = self.loads + [draw_step(dice, WIDE) for _ in range(15)]
            if seed < 15:
                dice.shuffle(steps)
            other = list(steps)
            at = dice.randint(0, 18)
            other[at], other[at + 1] = other[at + 1], other[at]
            with self.subTest(seed=seed):
                self.assert_right_answer(Script(WIDE, tuple(steps)), Script(WIDE, tuple(other)))

    def test_all_columns_to_one_table(self):
        schema = Schema(tuple([(name, True, (("x", "a"), ("y", "a"), ("z", "a"))) for name in "abcde"]))
        loads = [("load", name, "raw", True) for name in "abcde"]
        sweeps = [("sweep", "a", "x"), ("patch", "b", "y"), ("sweep", "e", "z")] * 5
        script = Script(schema, tuple(loads + sweeps))
        self.assert_alike(script, Script(schema, tuple(loads + sweeps[::-1])))
        self.assert_told_apart(script, Script(schema, tuple(loads[:4] + sweeps + loads[4:])))
        self.assert_told_apart(script, script.without(19))


if __name__ == "__main__":
    unittest.main()
