"""[17]: scripts that are carried out stroke by stroke."""

import unittest

from carrykeys.bases import Database, Schema
from carrykeys.errors import NoStrokes, NoTable, NotClosed, NothingBegun, NotSame, Refused
from carrykeys.runs import Carrier, run
from carrykeys.scripts import Script
from model import Model, Refusal, dice_of, draw_base, draw_schema, draw_script, draw_stops, plain
from support import FLAGS, TABLES, base_of, contents, example_base, example_schema, raised, strange

CITY = ("load", "city", "raw", True)
PERSON = ("load", "person", "raw", False)
REFUSE = ("load", "person", "refuse", False)
PATCH = ("patch", "person", "boss")
HOME = ("patch", "person", "home")
SWEEP = ("sweep", "person", "boss")


def state(carrier):
    """Return all that a carrier tells, as plain values."""
    tables = [entry[0] for entry in carrier.target().schema().tables()]
    told = [(table, carrier.mapped(table), carrier.made(table)) for table in tables]
    return contents(carrier.target()), told, carrier.place, carrier.done, carrier.strokes


class CarrierTest(unittest.TestCase):
    def setUp(self):
        self.schema = example_schema()

    def carrier(self, steps, source=None, target=None, kept=True):
        # An empty database is false, so None is asked for.
        source = example_base() if source is None else source
        target = Database(self.schema) if target is None else target
        return Carrier(Script(self.schema, steps, kept), source, target)

    def assert_at(self, carrier, place, done, strokes):
        self.assertEqual((carrier.place, carrier.done, carrier.strokes), (place, done, strokes))
        self.assertIs(carrier.done.__class__, bool)
        self.assertIs(carrier.place.__class__, int)
        self.assertIs(carrier.strokes.__class__, int)

    def test_errors_of_the_constructor(self):
        script = Script(self.schema, (REFUSE,))
        closed = base_of(self.schema, {"person": {1: (7, (None, 1))}})
        wrong = base_of(self.schema, {"person": {1: (7, (None, 2))}})
        other = Database(Schema((TABLES[0],)))
        for source, target in [(other, wrong), (wrong, other), (other, other)]:
            raised(self, NotSame, Carrier, script, source, target)
        self.assertEqual(raised(self, NotClosed, Carrier, script, wrong, wrong).part, "source")
        self.assertEqual(raised(self, NotClosed, Carrier, script, closed, wrong).part, "target")
        # What will be refused is no error yet.
        self.assert_at(Carrier(script, closed, closed), 0, False, 0)

    def test_by_names(self):
        carrier = Carrier(Script(self.schema, (CITY,)), target=Database(self.schema), source=example_base())
        self.assertEqual(carrier.go(strokes=5), 1)
        self.assertEqual(carrier.mapped(table="city"), [(4, 1)])
        self.assertEqual(carrier.made(table="city"), [(1, 4)])

    def test_stroke_by_stroke(self):
        target = base_of(self.schema, {"person": {1: (9, (None, 1))}})
        carrier = self.carrier((CITY, PERSON, PATCH), target=target)
        old, city = (1, (9, (None, 1))), (1, (100, ()))
        moments = [
            ([], [old], [], [], 0, False, 0),
            ([city], [old], [], [], 1, False, 1),
            ([city], [old, (2, (7, (1, 2)))], [(1, 2)], [(2, 1)], 1, False, 2),
            ([city], [old, (2, (7, (1, 2))), (3, (8, (1, None)))], [(1, 2), (2, 3)], [(2, 1), (3, 2)], 2, False, 3),
            ([city], [old, (2, (7, (1, 3))), (3, (8, (1, None)))], [(1, 2), (2, 3)], [(2, 1), (3, 2)], 2, False, 4),
            ([city], [old, (2, (7, (1, 3))), (3, (8, (1, None)))], [(1, 2), (2, 3)], [(2, 1), (3, 2)], 3, True, 5),
        ]
        for number, (cities, persons, mapped, made, place, done, strokes) in enumerate(moments):
            with self.subTest(number=number):
                self.assertEqual(carrier.target().rows("city"), cities)
                self.assertEqual(carrier.target().rows("person"), persons)
                self.assertEqual((carrier.mapped("person"), carrier.made("person")), (mapped, made))
                self.assert_at(carrier, place, done, strokes)
                self.assertEqual(carrier.go(), 0 if done else 1)
        self.assert_at(carrier, 3, True, 5)

    def test_go_many(self):
        for many in (0, 1, 2, 3, 4, 5, 6, 999, 1000):
            with self.subTest(many=many):
                carrier = self.carrier((CITY, PERSON, PATCH))
                self.assertEqual(carrier.go(many), min(many, 5))
                self.assertEqual(carrier.strokes, min(many, 5))
                self.assertEqual(carrier.done, many >= 5)
                self.assertEqual(carrier.go(1000), max(5 - many, 0))
                self.assertEqual(carrier.go(1000), 0)
                self.assert_at(carrier, 3, True, 5)

    def test_more_than_a_thousand_strokes(self):
        source = base_of(self.schema, {"person": {key: (1, (None, None)) for key in range(1, 61)}})
        carrier = self.carrier((PERSON,) + (PATCH,) * 19, source)
        self.assertEqual((carrier.go(1000), carrier.place, carrier.done), (1000, 16, False))
        self.assertEqual((carrier.go(1000), carrier.place, carrier.done), (200, 20, True))
        self.assertEqual(run(Script(self.schema, (PERSON,) + (PATCH,) * 19), source, source, ()).strokes, 1200)

    def test_no_strokes(self):
        for done in FLAGS:
            carrier = self.carrier((CITY, PERSON))
            carrier.go(10 if done else 1)
            before = state(carrier)
            for number, strokes in strange(*FLAGS, 1001, 10 ** 5000, -2, "0", (1,), 1.5):
                with self.subTest(number=number):
                    raised(self, NoStrokes, carrier.go, strokes)
                    raised(self, NoStrokes, carrier.go, strokes=strokes)
                    self.assertEqual(state(carrier), before)

    def test_no_strokes_ahead_of_a_refusal(self):
        source = base_of(self.schema, {"person": {1: (7, (None, 1))}})
        carrier = self.carrier((REFUSE,), source)
        raised(self, NoStrokes, carrier.go, 1001)
        raised(self, Refused, carrier.go, 1000)
        self.assertEqual(carrier.go(0), 0)

    def test_place_passes_over_steps_without_rows(self):
        self.assert_at(self.carrier((PATCH, SWEEP, ("fill", "person", "home"), PERSON)), 3, False, 0)
        self.assert_at(self.carrier((CITY, PERSON), Database(self.schema)), 2, True, 0)
        self.assert_at(self.carrier(()), 0, True, 0)
        self.assert_at(self.carrier((SWEEP, CITY), target=example_base()), 0, False, 0)
        carrier = self.carrier((CITY, PATCH, HOME, ("sweep", "person", "home")))
        self.assertEqual(carrier.go(1), 1)
        self.assert_at(carrier, 4, True, 1)

    def test_place_where_rows_of_a_step_come_in_this_run(self):
        carrier = self.carrier((SWEEP, PERSON, SWEEP, SWEEP))
        self.assert_at(carrier, 1, False, 0)
        for strokes, place in enumerate([1, 2, 2, 3, 3, 4], 1):
            carrier.go()
            self.assert_at(carrier, place, strokes == 6, strokes)
        carrier.again()
        self.assert_at(carrier, 0, False, 6)

    def test_refused_in_the_middle(self):
        source = base_of(self.schema, {
            "city": {2: (5, ())}, "person": {3: (1, (2, None)), 5: (2, (2, 3)), 6: (3, (2, 6)), 7: (4, (None, None))},
        })
        target = base_of(self.schema, {"person": {4: (1, (None, 4))}})
        for ahead in range(4):
            carrier = self.carrier((CITY, SWEEP, REFUSE), source, target)
            carrier.go(ahead)
            before = state(carrier)
            for many in (1000, 5 - ahead):
                with self.subTest(ahead=ahead, many=many):
                    error = raised(self, Refused, carrier.go, many)
                    self.assertEqual((error.index, error.key, error.why), (2, 6, "missing"))
                    self.assertEqual(state(carrier), before)
            self.assertEqual(carrier.go(4 - ahead), 4 - ahead)
            self.assert_at(carrier, 2, False, 4)
            raised(self, Refused, carrier.go)
            self.assert_at(carrier, 2, False, 4)

    def test_refused_at_once(self):
        carrier = self.carrier((PERSON, ("load", "city", "raw", False)), target=base_of(self.schema, {"city": {1: (100, ())}}))
        raised(self, Refused, carrier.go, 3)
        self.assert_at(carrier, 0, False, 0)
        # Nothing that was taken back can be stopped.
        raised(self, NothingBegun, carrier.again)
        self.assertEqual(carrier.go(2), 2)
        error = raised(self, Refused, carrier.go)
        self.assertEqual((error.index, error.key, error.why), (1, 4, "label"))
        self.assertIsNone(carrier.again())
        self.assert_at(carrier, 0, False, 2)
        raised(self, Refused, carrier.go, 3)
        self.assert_at(carrier, 0, False, 2)
        self.assertEqual(carrier.go(2), 2)
        self.assertEqual(carrier.made("person"), [(1, 1), (2, 2)])

    def test_refused_takes_back_what_was_swept(self):
        source = base_of(self.schema, {"city": {3: (1, ())}, "person": {1: (1, (3, 1))}})
        target = base_of(self.schema, {"city": {3: (9, ())}, "person": {8: (0, (3, 8))}})
        carrier = self.carrier((CITY, ("sweep", "person", "home"), REFUSE), source, target)
        carrier.go()
        before = state(carrier)
        raised(self, Refused, carrier.go, 2)
        self.assertEqual(state(carrier), before)
        self.assertEqual(carrier.go(), 1)
        self.assertEqual(carrier.target().rows("person"), [(8, (0, (4, 8)))])

    def test_refused_behind_again(self):
        source = base_of(self.schema, {"city": {3: (1, ()), 4: (2, ())}})
        carrier = self.carrier((("load", "city", "raw", False),), source, kept=False)
        carrier.go()
        carrier.again()
        before = state(carrier)
        error = raised(self, Refused, carrier.go, 1000)
        self.assertEqual((error.index, error.key, error.why), (0, 3, "label"))
        self.assertEqual(state(carrier), before)
        raised(self, NothingBegun, carrier.again)

    def test_nothing_begun(self):
        for steps in [(), (CITY, PERSON)]:
            carrier = self.carrier(steps)
            before = state(carrier)
            raised(self, NothingBegun, carrier.again)
            carrier.go(0)
            raised(self, NothingBegun, carrier.again)
            self.assertEqual(state(carrier), before)

    def test_again_behind_strokes_and_none(self):
        carrier = self.carrier((CITY, PERSON))
        carrier.go(2)
        self.assertEqual(carrier.go(0), 0)
        self.assertIsNone(carrier.again())
        self.assert_at(carrier, 0, False, 2)
        carrier.go(1000)
        self.assertEqual(carrier.go(1000), 0)
        self.assertIsNone(carrier.again())
        self.assert_at(carrier, 0, False, 5)

    def test_again_twice_in_a_row(self):
        for many in (1, 2, 3, 1000):
            carrier = self.carrier((CITY, PERSON))
            carrier.go(many)
            self.assertIsNone(carrier.again())
            before = state(carrier)
            raised(self, NothingBegun, carrier.again)
            carrier.go(0)
            raised(self, NothingBegun, carrier.again)
            self.assertEqual(state(carrier), before)
            carrier.go(1)
            self.assertIsNone(carrier.again())

    def test_again_that_keeps(self):
        carrier = self.carrier((CITY, PERSON, PATCH))
        carrier.go(2)
        carrier.again()
        self.assert_at(carrier, 0, False, 2)
        self.assertEqual((carrier.mapped("city"), carrier.mapped("person")), ([(4, 1)], [(1, 1)]))
        self.assertEqual(carrier.made("person"), [(1, 1)])
        self.assertEqual(carrier.go(1000), 5)
        self.assertEqual(carrier.target().rows("person"), [(1, (7, (1, 2))), (2, (8, (1, None)))])

    def test_again_that_does_not_keep(self):
        carrier = self.carrier((CITY, PERSON, PATCH), kept=False)
        carrier.go(2)
        carrier.again()
        self.assert_at(carrier, 0, False, 2)
        self.assertEqual((carrier.mapped("city"), carrier.mapped("person")), ([], []))
        self.assertEqual((carrier.made("city"), carrier.made("person")), ([(1, 4)], [(1, 1)]))
        self.assertEqual(carrier.go(1000), 5)
        rows = [(1, (7, (1, 2))), (2, (7, (1, 3))), (3, (8, (1, None)))]
        self.assertEqual(carrier.target().rows("person"), rows)
        self.assertEqual((carrier.mapped("person"), carrier.made("person")), ([(1, 2), (2, 3)], [(1, 1), (2, 1), (3, 2)]))

    def test_again_at_the_end(self):
        for kept in FLAGS:
            carrier = self.carrier((CITY, PERSON), kept=kept)
            carrier.go(1000)
            self.assert_at(carrier, 2, True, 3)
            self.assertIsNone(carrier.again())
            self.assert_at(carrier, 0, False, 3)
            self.assertEqual(carrier.mapped("person"), [(1, 1), (2, 2)] if kept else [])
            self.assertEqual(carrier.go(1000), 3)
            self.assertEqual(len(carrier.target()), 3 if kept else 5)

    def test_made_rows_of_an_earlier_run(self):
        steps = (PATCH, PERSON)
        for kept in FLAGS:
            carrier = self.carrier(steps, kept=kept)
            self.assert_at(carrier, 1, False, 0)
            carrier.go(1)
            carrier.again()
            self.assert_at(carrier, 0 if kept else 1, False, 1)

    def test_later_changes_of_what_was_passed(self):
        source, target = example_base(), base_of(self.schema, {"city": {7: (3, ())}})
        carrier = self.carrier((CITY, PERSON), source, target)
        carrier.go(1)
        for base in (source, target):
            base["city", 9] = (50, ())
            base["person", 9] = (8, (9, None))
        source.drop("person", 1)
        target.drop("city", 7)
        carrier.go(1000)
        self.assertEqual(carrier.target().rows("city"), [(7, (3, ())), (8, (100, ()))])
        self.assertEqual(carrier.target().rows("person"), [(1, (7, (8, 2))), (2, (8, (8, None)))])

    def test_nothing_that_is_passed_is_changed(self):
        source, target = example_base(), base_of(self.schema, {"person": {1: (9, (None, 1))}})
        before = contents(source), contents(target)
        carrier = self.carrier((CITY, PERSON, PATCH, SWEEP), source, target)
        carrier.go(4)
        carrier.again()
        carrier.go(1000)
        self.assertEqual((contents(source), contents(target)), before)

    def test_what_is_returned_is_a_copy(self):
        carrier = self.carrier((CITY, PERSON))
        carrier.go(2)
        before = state(carrier)
        base = carrier.target()
        base["city", 2] = (1, ())
        base.drop("person", 1)
        carrier.mapped("person").append((5, 5))
        carrier.made("person").clear()
        self.assertEqual(state(carrier), before)
        carrier.go()
        self.assertEqual(carrier.target().rows("person"), [(1, (7, (1, 2))), (2, (8, (1, None)))])
        self.assertNotIn(("person", 2), base)

    def test_no_table(self):
        carrier = self.carrier((CITY,))
        for number, table in strange(0, 1, *FLAGS, "town", "home", ("city",)):
            with self.subTest(number=number):
                self.assertIs(raised(self, NoTable, carrier.mapped, table).name, table)
                self.assertIs(raised(self, NoTable, carrier.made, table).name, table)

    def test_carriers_do_not_meet(self):
        script, source, target = Script(self.schema, (CITY, PERSON)), example_base(), Database(self.schema)
        first, second = Carrier(script, source, target), Carrier(script, source, target)
        first.go(3)
        self.assert_at(second, 0, False, 0)
        self.assertEqual((len(second.target()), second.mapped("city")), (0, []))


class DrawnTest(unittest.TestCase):
    def draw(self, seed):
        dice = dice_of(seed)
        schema = draw_schema(dice)
        script = draw_script(dice, schema)
        return dice, script, draw_base(dice, schema), draw_base(dice, schema)

    def assert_agree(self, carrier, model):
        self.assertEqual(plain(carrier.target()), model.base)
        self.assertEqual(carrier.strokes, model.strokes)
        for table in model.unique:
            self.assertEqual(carrier.mapped(table), sorted(model.mapping[table].items()))
            self.assertEqual(carrier.made(table), sorted(model.ever[table].items()))

    def test_stroke_by_stroke(self):
        for seed in range(1000):
            _, script, source, target = self.draw(seed)
            carrier, model = Carrier(script, source, target), Model(script, source, target)
            with self.subTest(seed=seed):
                if self.follow(carrier, model):
                    fresh = Carrier(script, source, target)
                    before = state(fresh)
                    raised(self, Refused, fresh.go, 1000)
                    self.assertEqual(state(fresh), before)

    def follow(self, carrier, model):
        """Go stroke by stroke, the model one ahead, until the end or a refusal; tell whether it was refused."""
        run = model.run()
        while True:
            try:
                place = next(run, len(model.steps))
            except Refusal as refusal:
                before = state(carrier)
                error = raised(self, Refused, carrier.go)
                self.assertEqual((error.index, error.key, error.why), refusal.args)
                self.assertEqual(state(carrier), before)
                return True
            if model.strokes > carrier.strokes:
                self.assertEqual(carrier.go(), 1)
            self.assert_agree(carrier, model)
            self.assertEqual((carrier.place, carrier.done), (place, place == len(model.steps)))
            if place == len(model.steps):
                self.assertEqual(carrier.go(), 0)
                return False

    def test_with_stops(self):
        for seed in range(1000):
            dice, script, source, target = self.draw(seed)
            stops = draw_stops(dice)
            with self.subTest(seed=seed):
                try:
                    outcome = run(script, source, target, stops)
                except Refused as refusal:
                    error = raised(self, Refused, self.carried, script, source, target, stops)
                    self.assertEqual((error.index, error.key, error.why), (refusal.index, refusal.key, refusal.why))
                    continue
                carrier = self.carried(script, source, target, stops)
                self.assertEqual((carrier.target(), carrier.strokes), (outcome.target(), outcome.strokes))
                for entry in source.schema().tables():
                    self.assertEqual(carrier.mapped(entry[0]), outcome.mapped(entry[0]))
                    self.assertEqual(carrier.made(entry[0]), outcome.made(entry[0]))

    def carried(self, script, source, target, stops):
        carrier = Carrier(script, source, target)
        for stop in stops:
            carrier.go(stop)
            if carrier.done:
                return carrier
            if stop > 0:
                carrier.again()
        carrier.go(1000)
        return carrier


if __name__ == "__main__":
    unittest.main()
