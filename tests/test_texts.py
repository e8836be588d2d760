"""[18], [19] and [20]: schemas, scripts and databases as texts."""

import unittest

from carrykeys.bases import Database, Schema
from carrykeys.errors import NoSchema, NoStep, NoText, Taken
from carrykeys.scripts import Script
from carrykeys.texts import base_text, read_base, read_schema, read_script, schema_text, script_text
from model import dice_of, draw_base, draw_schema, draw_script
from support import FLAGS, base_of, example_base, example_schema, raised, script_of, strange

SCHEMA = example_schema()
TEXT = "city unique\nperson any home>city boss>person"
WORDS = Schema((
    ("unique", False, (("any", "load"), ("unique", "unique"))), ("any", True, ()), ("load", True, (("load", "empty"),)),
    ("empty", False, (("patch", "kept"), ("raw", "any"), ("match", "empty"))), ("kept", True, (("lost", "kept"),)),
))
WORDS_TEXT = ("unique any any>load unique>unique\nany unique\nload unique load>empty\n"
              "empty any patch>kept raw>any match>empty\nkept unique lost>kept")
LONG = Schema((("abcdefgh", True, (("z", "ijklmnop"), ("zyxwvuts", "abcdefgh"))), ("ijklmnop", False, ())))
LONG_TEXT = "abcdefgh unique z>ijklmnop zyxwvuts>abcdefgh\nijklmnop any"

# Signs that a text may have beside letters, and some that it should not have.
SIGNS = " !\"#$&'()*+,-./0123456789:;<=>?@ABCXYZ[\\]^_`{|}~\t\r\x0b\x0c\x1c\x85\u2028\u00e4\u00df\u0131\u0661\u00b2\uff11"
# What is no number: too long, with a sign, with leading zeros, in digits that are none from 0 to 9.
NO_NUMBERS = [
    "", "00", "01", "007", "-1", "+1", "-0", "--", "1.0", "1e3", "0x1", "1_0", "1,0", "a", "x1", "1x", "None",
    "1" * 31, "0" + "1" * 30, "0" * 30, "\u0661", "\u00b2", "\uff11", "1\u0661", "1\r", "1\t", "\t1",
]


class Checks(unittest.TestCase):
    def assert_no_text(self, part, read, *arguments):
        self.assertEqual(raised(self, NoText, read, *arguments).part, part)

    def assert_strange(self, read, *ahead):
        for number, value in strange(0, 1, -5, (TEXT,), b"kept", b"empty", bytearray(b"a any"), *FLAGS):
            if not isinstance(value, str):
                with self.subTest(number=number):
                    self.assert_no_text(0, read, *ahead, value)


class SchemaTextTest(Checks):
    """[18]"""

    def assert_there_and_back(self, schema, text):
        self.assertEqual(schema_text(schema), text)
        self.assertIs(schema_text(schema).__class__, str)
        self.assertEqual(read_schema(text), schema)
        self.assertEqual(read_schema(text).tables(), schema.tables())
        self.assertIs(read_schema(text).__class__, Schema)

    def assert_wrong_line(self, line):
        """Check that a line is wrong as the only one, as the first, in the middle and as the last."""
        self.assert_no_text(0, read_schema, line)
        self.assert_no_text(0, read_schema, f"{line}\nb any")
        self.assert_no_text(1, read_schema, f"b any\n{line}")
        self.assert_no_text(1, read_schema, f"b any\n{line}\nc any")
        self.assert_no_text(2, read_schema, f"b any\nc any\n{line}")
        self.assert_no_text(4, read_schema, f"b any\nc any\nd any\ne any\n{line}\n{line}")

    def test_there_and_back(self):
        self.assert_there_and_back(SCHEMA, TEXT)
        self.assert_there_and_back(WORDS, WORDS_TEXT)
        self.assert_there_and_back(LONG, LONG_TEXT)
        self.assert_there_and_back(Schema((("a", True, ()),)), "a unique")
        self.assert_there_and_back(Schema((("a", False, ()),)), "a any")
        self.assert_there_and_back(Schema((("a", False, (("a", "a"),)),)), "a any a>a")
        self.assert_there_and_back(Schema((("a", True, (("c", "a"), ("b", "a"), ("a", "a"))),)), "a unique c>a b>a a>a")
        self.assert_there_and_back(Schema((("b", True, (("x", "a"),)), ("a", False, (("x", "b"),)))),
                                   "b unique x>a\na any x>b")

    def test_five_tables_with_three_columns(self):
        names = ["a", "bb", "ccc", "dddd", "eeeeeeee"]
        schema = Schema(tuple([(name, name < "c", (("x", "a"), ("yy", name), ("z", "eeeeeeee"))) for name in names]))
        self.assert_there_and_back(schema, "\n".join(
            [f"{name} {'unique' if name < 'c' else 'any'} x>a yy>{name} z>eeeeeeee" for name in names]))

    def test_drawn(self):
        for seed in range(200):
            schema = draw_schema(dice_of(seed), 5)
            text = schema_text(schema)
            self.assertEqual(read_schema(text), schema)
            self.assertEqual(schema_text(read_schema(text)), text)
            self.assertEqual(len(text.split("\n")), len(schema.tables()))

    def test_arguments_by_name(self):
        self.assertEqual(schema_text(schema=SCHEMA), TEXT)
        self.assertEqual(read_schema(text=TEXT), SCHEMA)
        self.assertIs(read_schema(TEXT).is_unique("city"), True)
        self.assertIs(read_schema(TEXT).is_unique("person"), False)

    def test_no_strings(self):
        self.assert_strange(read_schema)

    def test_empty_lines(self):
        self.assert_no_text(0, read_schema, "")
        self.assert_no_text(0, read_schema, "\n")
        self.assert_no_text(0, read_schema, "\n" + TEXT)
        self.assert_no_text(2, read_schema, TEXT + "\n")
        self.assert_no_text(1, read_schema, TEXT.replace("\n", "\n\n"))
        self.assert_wrong_line("")

    def test_spaces(self):
        for line in [" ", " a any", "a any ", "a  any", "a any  x>a", "a any x>a ", "a any x>a  y>a", "a any x> a",
                     "a any x >a", "a any x > a", "a\tany", "a any\r", "a any\tx>a", "a any x>a\x0by>a"]:
            with self.subTest(line=line):
                self.assert_wrong_line(line)

    def test_names(self):
        for name in ["", "A", "aB", "Ab", "abcdefghi", "a" * 100, "a1", "1", "a_b", "a-b", "a.b", ">", "a>b"]:
            with self.subTest(name=name):
                for line in [f"{name} any", f"a any {name}>a", f"a any x>{name}", f"a unique x>a {name}>a",
                             f"a any x>a x>{name}", f"{name} unique x>a"]:
                    self.assert_wrong_line(line)

    def test_signs(self):
        for sign in SIGNS:
            with self.subTest(sign=sign):
                for line in [sign, f"{sign}a any", f"a{sign} any", f"a any{sign}", f"a any x{sign}>a", f"a any {sign}x>a",
                             f"a any x>{sign}a", f"a any x>a{sign}", f"a any {sign}", f"a {sign}any"]:
                    self.assert_wrong_line(line)

    def test_unique_or_any(self):
        for line in ["a", "a x>a", "a none", "a uniq", "a uniques", "a Unique", "a ANY", "a any unique", "a unique any",
                     "any", "unique", "a True", "a any any x>a", "a x>a any", "unique a", "any x>a"]:
            with self.subTest(line=line):
                self.assert_wrong_line(line)

    def test_references(self):
        for line in ["a any x", "a any xa", "a any >", "a any x>", "a any >a", "a any x>>a", "a any x>a>a", "a any x>a>",
                     "a any >x>a", "a any x<a", "a any x=a", "a any x:a", "a any x>a y", "a any y x>a", "a any x>ay>a",
                     "a any x>a,y>a", "a any x>a;y>a"]:
            with self.subTest(line=line):
                self.assert_wrong_line(line)

    def test_no_schema(self):
        for part, text in [
            ("tables", "a any x>a y>a z>a w>a"),
            ("tables", "a any x>c y>c z>c w>c v>c"),
            ("tables", "a any\nb any\nc any\nd any\ne any\nf any"),
            ("tables", "a any\nb any\na any"),
            ("tables", "a any\na any"),
            ("tables", "a any x>a x>a"),
            ("tables", "a any x>a y>a x>b\nb any"),
            ("tables", "a any x>z\na any"),
            ("references", "a any x>b"),
            ("references", "a any x>a\nb unique x>a y>c"),
            ("references", "any unique any>unique"),
        ]:
            with self.subTest(text=text):
                self.assertEqual(raised(self, NoSchema, read_schema, text).part, part)
                # A line that has not the form comes first, also behind what is wrong with the schema.
                many = len(text.split("\n"))
                for wrong in ["", "g", "g any ", "g any x"]:
                    self.assert_no_text(many, read_schema, f"{text}\n{wrong}")
                    self.assert_no_text(many, read_schema, f"{text}\n{wrong}\n{wrong}")
                    self.assert_no_text(0, read_schema, f"{wrong}\n{text}")

    def test_the_first_wrong_line(self):
        self.assert_no_text(1, read_schema, "a any\nb\nc\nd any")
        self.assert_no_text(2, read_schema, "a any\na any\nA any\n")
        self.assert_no_text(6, read_schema, "a any\nb any\nc any\nd any\ne any\nf any\nG any")
        self.assert_no_text(40, read_schema, "a any\n" * 40 + "a")
        self.assertEqual(raised(self, NoSchema, read_schema, "a any\n" * 40 + "a any").part, "tables")


class ScriptTextTest(Checks):
    """[19]"""

    def assert_there_and_back(self, schema, steps, kept, text):
        script = Script(schema, steps, kept)
        self.assertEqual(script_text(script), text)
        self.assertIs(script_text(script).__class__, str)
        found = read_script(schema, text)
        self.assertIs(found.__class__, Script)
        self.assertEqual(found, script)
        self.assertEqual(found.steps(), steps)
        self.assertIs(found.kept, kept)
        self.assertEqual(found.schema(), schema)

    def assert_wrong_part(self, part):
        """Check that a part behind the first one is wrong in each place."""
        self.assert_no_text(1, read_script, SCHEMA, f"kept; {part}")
        self.assert_no_text(1, read_script, SCHEMA, f"lost; {part}; load city raw")
        self.assert_no_text(2, read_script, SCHEMA, f"kept; load city raw; {part}")
        self.assert_no_text(3, read_script, SCHEMA, f"lost; load city raw; patch person home; {part}; {part}")
        self.assert_no_text(21, read_script, SCHEMA, "kept; " + "load city raw; " * 20 + part)
        # A part that has not the form comes first, also behind a step that the schema does not have.
        self.assert_no_text(2, read_script, SCHEMA, f"kept; load town raw; {part}")

    def test_each_form(self):
        for kept, word in [(True, "kept"), (False, "lost")]:
            self.assert_there_and_back(SCHEMA, (), kept, word)
            for missing in ("raw", "blank", "refuse"):
                for table in ("city", "person"):
                    self.assert_there_and_back(SCHEMA, (("load", table, missing, False),), kept,
                                               f"{word}; load {table} {missing}")
                    self.assert_there_and_back(SCHEMA, (("load", table, missing, True),), kept,
                                               f"{word}; load {table} {missing} match")
            for step in ("patch", "fill", "sweep"):
                for column in ("home", "boss"):
                    self.assert_there_and_back(SCHEMA, ((step, "person", column),), kept, f"{word}; {step} person {column}")

    def test_several_steps(self):
        steps = (("load", "city", "raw", True), ("load", "person", "blank", False), ("fill", "person", "boss"),
                 ("patch", "person", "home"), ("sweep", "person", "boss"))
        text = "load city raw match; load person blank; fill person boss; patch person home; sweep person boss"
        self.assert_there_and_back(SCHEMA, steps, True, f"kept; {text}")
        self.assert_there_and_back(SCHEMA, steps, False, f"lost; {text}")

    def test_names_that_are_words_of_the_texts(self):
        steps = (("load", "load", "raw", False), ("load", "kept", "raw", True), ("load", "unique", "refuse", True),
                 ("patch", "empty", "patch"), ("fill", "empty", "match"), ("sweep", "load", "load"),
                 ("patch", "empty", "raw"), ("fill", "kept", "lost"))
        self.assert_there_and_back(WORDS, steps, True, "kept; load load raw; load kept raw match; load unique refuse match; "
                                   "patch empty patch; fill empty match; sweep load load; patch empty raw; fill kept lost")

    def test_long_names(self):
        steps = (("load", "abcdefgh", "refuse", True), ("patch", "abcdefgh", "zyxwvuts"), ("fill", "abcdefgh", "z"))
        self.assert_there_and_back(LONG, steps, False,
                                   "lost; load abcdefgh refuse match; patch abcdefgh zyxwvuts; fill abcdefgh z")

    def test_twenty_steps(self):
        steps = (("load", "city", "raw", True), ("sweep", "person", "home")) * 10
        text = "kept" + "; load city raw match; sweep person home" * 10
        self.assert_there_and_back(SCHEMA, steps, True, text)
        self.assertEqual(raised(self, NoStep, read_script, SCHEMA, text + "; load city raw").index, 20)
        self.assertEqual(raised(self, NoStep, read_script, SCHEMA, text + "; load town raw; load city raw").index, 20)
        self.assert_no_text(21, read_script, SCHEMA, text + "; load city")
        self.assert_no_text(22, read_script, SCHEMA, text + "; load city raw; load city")

    def test_drawn(self):
        for seed in range(300):
            dice = dice_of(seed)
            schema = draw_schema(dice, 5)
            script = draw_script(dice, schema, 20)
            text = script_text(script)
            self.assertEqual(read_script(schema, text), script)
            self.assertEqual(script_text(read_script(schema, text)), text)
            self.assertEqual(len(text.split("; ")), len(script) + 1)

    def test_arguments_by_name(self):
        script = script_of(SCHEMA, "load city raw match")
        self.assertEqual(read_script(text="kept; load city raw match", schema=SCHEMA), script)

    def test_no_strings(self):
        self.assert_strange(read_script, SCHEMA)

    def test_kept_or_lost(self):
        for word in ["", " ", "keep", "Kept", "LOST", "kept ", " kept", "lost;", ";", "true", "True", "kept lost",
                     "load city raw", "; load city raw", "kept\n", "match", "kept kept"]:
            with self.subTest(word=word):
                self.assert_no_text(0, read_script, SCHEMA, word)
                self.assert_no_text(0, read_script, SCHEMA, f"{word}; load city raw")
                self.assert_no_text(0, read_script, SCHEMA, f"{word}; load city; load town raw")
        self.assert_wrong_part("kept")
        self.assert_wrong_part("lost")

    def test_separators(self):
        for part, text in [
            (0, "kept;load city raw"), (0, "kept;"), (0, "kept ; load city raw"), (0, "kept, load city raw"),
            (0, "kept load city raw"), (0, "kept\nload city raw"), (0, ";kept"), (0, "; kept"), (0, "kept;; load city raw"),
            (1, "kept; "), (1, "kept;  "), (1, "kept;  load city raw"), (1, "kept; ; load city raw"),
            (1, "kept; load city raw;"), (1, "kept; load city raw;load city raw"), (1, "kept; load city raw\n"),
            (1, "kept; load city raw ; load city raw"), (1, "kept; load city raw ;load city raw"),
            (1, "kept; load city raw;; load city raw"), (1, "kept; \nload city raw"), (1, "kept; ;"),
            (2, "kept; load city raw; "), (2, "kept; load city raw;  load city raw"), (2, "kept; load city raw; ;"),
            (2, "kept; load city raw; ; load city raw"), (2, "lost; load city raw; ; "), (2, "kept; load city raw; kept"),
        ]:
            with self.subTest(text=text):
                self.assert_no_text(part, read_script, SCHEMA, text)

    def test_words(self):
        for part in [
            "load", "load city", "load city match", "load city raw match match", "load city raw raw", "load raw city",
            "load city raw matches", "load city raw Match", "load city raw True", "load city raw home", "load city raw ",
            "load  city raw", " load city raw", "load city  raw", "load city raw  match", "load\tcity raw",
            "patch", "patch person", "patch person home boss", "patch person home match", "patch  person home",
            "patch person home ", "fill", "fill person", "fill person home home", "sweep", "sweep person",
            "sweep person home raw", "match person home", "drop person home", "person home", "patch person>home",
            "patchperson home", "loads city raw", "load city,raw", "city", "raw", "",  " ", "-",
        ]:
            with self.subTest(part=part):
                self.assert_wrong_part(part)

    def test_other_words_for_missing_rows(self):
        for word in ["Raw", "RAW", "raws", "refused", "blanks", "null", "old", "none", "match", "city", "", "0", "a"]:
            with self.subTest(word=word):
                self.assert_wrong_part(f"load city {word}")
                self.assert_wrong_part(f"load city {word} match")

    def test_capital_letters(self):
        for part in ["Load city raw", "LOAD city raw", "load City raw", "load city Raw", "load city raw MATCH",
                     "Patch person home", "patch Person home", "patch person Home", "Fill person home", "SWEEP person home"]:
            with self.subTest(part=part):
                self.assert_wrong_part(part)

    def test_names(self):
        for name in ["abcdefghi", "a1", "a_b", "1", "", "a-b", "person>home", "person;", "\u00e4", "a\u0131"]:
            with self.subTest(name=name):
                for part in [f"load {name} raw", f"load {name} raw match", f"patch {name} home", f"fill person {name}",
                             f"sweep {name} {name}", f"patch person {name}"]:
                    self.assert_wrong_part(part)

    def test_no_step(self):
        for part in ["load town raw", "load town refuse match", "patch city home", "patch person town", "fill town home",
                     "sweep person person", "load abcdefgh raw", "patch person abcdefgh", "patch home person", "load raw raw"]:
            with self.subTest(part=part):
                for index, text in [
                    (0, f"kept; {part}"), (0, f"lost; {part}; {part}"), (1, f"kept; load city raw; {part}"),
                    (1, f"kept; load city raw; {part}; load city raw; {part}"),
                    (19, "lost" + "; load city raw" * 19 + f"; {part}; {part}"),
                ]:
                    self.assertEqual(raised(self, NoStep, read_script, SCHEMA, text).index, index)

    def test_the_first_wrong_part(self):
        self.assert_no_text(2, read_script, SCHEMA, "kept; load town raw; load; load town raw; fill")
        self.assert_no_text(0, read_script, SCHEMA, "keep; load; fill")
        self.assert_no_text(30, read_script, SCHEMA, "kept; " + "load town raw; " * 29 + "patch person; load")


class BaseTextTest(Checks):
    """[20]"""

    def assert_there_and_back(self, base, text):
        self.assertEqual(base_text(base), text)
        self.assertIs(base_text(base).__class__, str)
        found = read_base(base.schema(), text)
        self.assertIs(found.__class__, Database)
        self.assertEqual(found, base)
        self.assertEqual(found.schema(), base.schema())
        self.assertEqual(base_text(found), text)

    def assert_wrong_line(self, line):
        """Check that a line is wrong as the only one, as the first, in the middle and as the last."""
        self.assert_no_text(0, read_base, SCHEMA, line)
        self.assert_no_text(0, read_base, SCHEMA, f"{line}\nperson 99 1 - -")
        self.assert_no_text(1, read_base, SCHEMA, f"city 1 1\n{line}\nperson 99 1 - -")
        self.assert_no_text(2, read_base, SCHEMA, f"city 1 1\ncity 2 2\n{line}")
        # It comes ahead of a label that is taken by an earlier line.
        self.assert_no_text(2, read_base, SCHEMA, f"city 1 1\ncity 2 1\n{line}\n{line}")

    def test_there_and_back(self):
        self.assert_there_and_back(example_base(), "city 4 100\nperson 1 7 4 2\nperson 2 8 4 -")
        self.assert_there_and_back(base_of(SCHEMA), "empty")
        self.assert_there_and_back(base_of(SCHEMA, {"person": {3: (0, (None, None))}}), "person 3 0 - -")
        self.assert_there_and_back(base_of(SCHEMA, {"city": {1: (0, ())}}), "city 1 0")
        self.assert_there_and_back(base_of(SCHEMA, {"person": {10: (1, (None, 9)), 9: (1, (2, 10)), 100: (1, (10, 1))}}),
                                   "person 9 1 2 10\nperson 10 1 - 9\nperson 100 1 10 1")

    def test_the_order_of_the_tables_is_that_of_the_schema(self):
        schema = Schema((("b", False, ()), ("a", True, ()), ("c", True, ())))
        base = base_of(schema, {"a": {2: (2, ()), 1: (1, ())}, "c": {1: (3, ())}, "b": {5: (2, ()), 4: (2, ())}})
        self.assert_there_and_back(base, "b 4 2\nb 5 2\na 1 1\na 2 2\nc 1 3")
        self.assert_no_text(1, read_base, schema, "a 1 1\nb 1 1")
        self.assert_no_text(2, read_base, schema, "b 1 1\nc 1 1\na 1 1")

    def test_names_that_are_words_of_the_texts(self):
        rows = {"unique": {1: (1, (1, None))}, "any": {2: (2, ())}, "load": {1: (0, (3,))},
                "empty": {3: (5, (None, 2, 3)), 4: (5, (None, None, None))}, "kept": {7: (7, (7,))}}
        self.assert_there_and_back(base_of(WORDS, rows), "unique 1 1 1 -\nany 2 2\nload 1 0 3\n"
                                   "empty 3 5 - 2 3\nempty 4 5 - - -\nkept 7 7 7")
        self.assert_there_and_back(base_of(WORDS), "empty")
        self.assert_there_and_back(base_of(WORDS, {"empty": {1: (0, (None, None, None))}}), "empty 1 0 - - -")
        self.assert_no_text(0, read_base, WORDS, "empty\nempty 1 0 - - -")
        self.assert_no_text(1, read_base, WORDS, "empty 1 0 - - -\nempty")

    def test_long_numbers(self):
        for key in (10 ** 28, 10 ** 29 - 1, 10 ** 29, 10 ** 30 - 1):
            for label in (0, 9, 10 ** 29, 10 ** 30 - 1):
                base = base_of(SCHEMA, {"city": {key: (label, ())}, "person": {key: (label, (key, key))}})
                self.assert_there_and_back(base, f"city {key} {label}\nperson {key} {label} {key} {key}")
        self.assert_there_and_back(base_of(SCHEMA, {"city": {9: (1, ()), 10 ** 29: (2, ()), 10 ** 29 + 1: (3, ())}}),
                                   f"city 9 1\ncity 1{'0' * 29} 2\ncity 1{'0' * 28}1 3")

    def test_cells_that_lead_to_no_row(self):
        base = base_of(SCHEMA, {"person": {1: (7, (4, 2)), 3: (7, (1, 10 ** 29))}})
        self.assert_there_and_back(base, f"person 1 7 4 2\nperson 3 7 1 1{'0' * 29}")
        self.assertIs(read_base(SCHEMA, "person 1 7 4 2").is_closed(), False)
        self.assertIs(read_base(SCHEMA, "city 4 1\nperson 1 7 4 1").is_closed(), True)

    def test_equal_labels(self):
        self.assert_there_and_back(base_of(SCHEMA, {"city": {1: (5, ())}, "person": {1: (5, (1, 1)), 2: (5, (1, 1))}}),
                                   "city 1 5\nperson 1 5 1 1\nperson 2 5 1 1")

    def test_sixty_rows(self):
        base = base_of(SCHEMA, {"city": {key: (key * 7, ()) for key in range(1, 61)},
                                "person": {key: (0, (key, None)) for key in range(1, 61)}})
        self.assert_there_and_back(base, "\n".join(
            [f"city {key} {key * 7}" for key in range(1, 61)] + [f"person {key} 0 {key} -" for key in range(1, 61)]))

    def test_drawn(self):
        for seed in range(200):
            dice = dice_of(seed)
            base = draw_base(dice, draw_schema(dice, 5), 6, 15)
            text = base_text(base)
            self.assertEqual(read_base(base.schema(), text), base)
            self.assertEqual(base_text(read_base(base.schema(), text)), text)
            self.assertEqual(len(text.split("\n")), len(base) or 1)

    def test_arguments_by_name(self):
        self.assertEqual(base_text(base=example_base()), "city 4 100\nperson 1 7 4 2\nperson 2 8 4 -")
        self.assertEqual(read_base(text="city 4 100", schema=SCHEMA), base_of(SCHEMA, {"city": {4: (100, ())}}))

    def test_what_was_read_is_independent(self):
        schema = example_schema()
        text = "city 4 100\nperson 1 7 4 -"
        base, other = read_base(schema, text), read_base(schema, text)
        base["person", 2] = (8, (4, 1))
        base.drop("city", 4)
        self.assertEqual(base_text(other), text)
        self.assertEqual(read_base(schema, text), other)
        nothing = read_base(schema, "empty")
        nothing["city", 1] = (1, ())
        self.assertEqual(len(read_base(schema, "empty")), 0)
        self.assertEqual(schema, example_schema())
        self.assertEqual((base["person", 1], base["person", 2]), ((7, (4, None)), (8, (4, 1))))

    def test_no_strings(self):
        self.assert_strange(read_base, SCHEMA)

    def test_empty_lines(self):
        self.assert_wrong_line("")
        for part, text in [(0, ""), (0, "\n"), (0, "\ncity 1 1"), (1, "city 1 1\n"), (1, "city 1 1\n\ncity 2 2"),
                           (1, "city 1 1\n\n"), (0, "\nempty")]:
            with self.subTest(text=text):
                self.assert_no_text(part, read_base, SCHEMA, text)

    def test_empty_beside_other_lines(self):
        for part, text in [(0, "empty\n"), (0, "empty\nempty"), (0, "empty\ncity 1 1"), (1, "city 1 1\nempty"),
                           (1, "city 1 1\nempty\ncity 2 2"), (0, "empty "), (0, " empty"), (0, "Empty"), (0, "empty 1 1"),
                           (0, "EMPTY"), (0, "none"), (0, "-")]:
            with self.subTest(text=text):
                self.assert_no_text(part, read_base, SCHEMA, text)

    def test_tables_and_cells(self):
        for line in ["town 1 1", "City 5 5", "cit 5 5", "citys 5 5", "city", "city 5", "city 5 5 5", "city 5 5 -", "person",
                     "person 5", "person 5 5", "person 5 5 -", "person 5 5 - - -", "person 5 5 4 2 1", "1 city 1", "5 5",
                     "abcdefghi 1 1", "city - 5", "city 5 -", "person - - - -", "person 5 5 -- -", "person 5 5 - None",
                     "person 5 5 - _", "person 5 5 -1 -"]:
            with self.subTest(line=line):
                self.assert_wrong_line(line)

    def test_spaces(self):
        for line in [" ", " city 5 5", "city 5 5 ", "city  5 5", "city 5  5", "person 5 5  - -", "person 5 5 -  -",
                     "person 5 5 - - ", "city\t5 5", "city 5\t5", "city 5 5\r", "city 5,5", "person 5 5 --"]:
            with self.subTest(line=line):
                self.assert_wrong_line(line)

    def test_numbers(self):
        for word in NO_NUMBERS:
            with self.subTest(word=word):
                for line in [f"city {word} 5", f"city 5 {word}", f"person {word} 5 - -", f"person 5 {word} - -",
                             f"person 5 5 {word} -", f"person 5 5 - {word}", f"person 5 5 1 {word}"]:
                    self.assert_wrong_line(line)

    def test_zero(self):
        for line in ["city 0 5", "person 0 5 - -", "person 5 5 0 -", "person 5 5 - 0", "person 5 0 0 0", "city 0 0"]:
            with self.subTest(line=line):
                self.assert_wrong_line(line)
        self.assertEqual(read_base(SCHEMA, "city 5 0")["city", 5], (0, ()))

    def test_lines_that_are_not_in_order(self):
        for part, text in [
            (1, "city 2 1\ncity 1 2"), (1, "city 1 1\ncity 1 2"), (1, "city 1 1\ncity 1 1"), (2, "city 1 1\ncity 3 2\ncity 2 3"),
            (1, "person 1 1 - -\ncity 1 1"), (1, "person 1 1 - -\ncity 2 1"), (2, "city 1 1\nperson 1 1 - -\ncity 2 2"),
            (1, "city 10 1\ncity 9 2"), (2, "city 9 1\ncity 10 2\ncity 10 3"), (1, "person 7 1 - -\nperson 7 1 - -"),
            (1, f"city {10 ** 29} 1\ncity {10 ** 29 - 1} 2"), (2, "city 9 1\nperson 9 1 - -\nperson 8 1 - -\nempty"),
            (2, "city 1 1\ncity 2 1\ncity 2 1"), (2, "city 1 1\ncity 2 1\ncity 1 3"),
        ]:
            with self.subTest(text=text):
                self.assert_no_text(part, read_base, SCHEMA, text)
        self.assertEqual(len(read_base(SCHEMA, "city 9 1\ncity 10 2\nperson 1 1 - -\nperson 3 1 - -")), 4)

    def test_taken(self):
        schema = Schema((("a", True, (("x", "b"),)), ("b", False, ()), ("c", True, ())))
        for table, label, text in [
            ("a", 5, "a 1 5 -\na 2 5 -"), ("a", 0, "a 1 1 -\na 2 0 4\na 3 0 -"), ("c", 7, "b 1 7\nb 2 7\nc 1 7\nc 2 7"),
            ("a", 6, "a 1 5 -\na 2 6 -\na 3 6 -\na 4 5 -"), ("a", 5, "a 1 5 -\na 2 6 -\na 3 5 -\na 4 6 -"),
            ("a", 2, "a 1 2 -\na 2 2 -\nc 1 1\nc 2 1"), ("c", 1, "a 1 1 -\nc 1 1\nc 2 1"),
            ("c", 10 ** 30 - 1, f"a 1 {10 ** 30 - 1} -\nc 1 {10 ** 30 - 1}\nc 2 {10 ** 30 - 1}"),
        ]:
            with self.subTest(text=text):
                error = raised(self, Taken, read_base, schema, text)
                self.assertEqual((error.table, error.label), (table, label))
                # A line that is wrong in itself comes first.
                many = len(text.split("\n"))
                for wrong in ["", "empty", "c 9", "c 09 9", "a 9 9 -", "d 1 1"] if "c" in text else ["a 1 9 -", "a 9 9 0"]:
                    self.assert_no_text(many, read_base, schema, f"{text}\n{wrong}")
        self.assertEqual(len(read_base(schema, "a 1 5 -\nb 1 5\nb 2 5\nc 1 5")), 4)

    def test_the_first_wrong_line(self):
        self.assert_no_text(1, read_base, SCHEMA, "city 1 1\ncity 2\ncity 0 1\ncity 1 1")
        self.assert_no_text(40, read_base, SCHEMA, "\n".join([f"city {key} 7" for key in range(1, 41)] + ["city 40 8", "x"]))


if __name__ == "__main__":
    unittest.main()
