"""The runs of the document once more, told in plain dicts, to compare the program with.

A base is a dict of the tables, each a dict of the keys and [label, list of cells].
"""

import random

from carrykeys.bases import Database, Schema
from carrykeys.scripts import Script


class Refusal(Exception):
    pass


def plain(base):
    return {entry[0]: {key: [row[0], list(row[1])] for key, row in base.rows(entry[0])}
            for entry in base.schema().tables()}


class Model:
    """Runs a script on plain dicts, one generator for each run: each value that it yields is a stroke."""

    def __init__(self, script, source, target):
        self.steps = script.steps()
        self.kept = script.kept
        self.unique = {name: unique for name, unique, _ in script.schema().tables()}
        self.columns = {name: [column for column, _ in refers] for name, _, refers in script.schema().tables()}
        self.leads = {(name, column): table
                      for name, _, refers in script.schema().tables() for column, table in refers}
        self.source = plain(source)
        self.base = plain(target)
        self.ever = {name: {} for name in self.unique}
        self.strokes = 0
        self.forget()

    def forget(self):
        self.mapping = {name: {} for name in self.unique}
        self.made = {name: {} for name in self.unique}

    def run(self):
        for index, step in enumerate(self.steps):
            table = step[1]
            if step[0] == "load":
                for key in sorted(self.source[table]):
                    yield index
                    self.load(index, step, key)
                    self.strokes += 1
                continue
            column = self.columns[table].index(step[2])
            mapping = self.mapping[self.leads[table, step[2]]]
            for key in sorted(self.base[table] if step[0] == "sweep" else self.made[table]):
                yield index
                cells = self.base[table][key][1]
                told = self.source[table][self.made[table][key]][1] if step[0] == "fill" else cells
                if told[column] is None or told[column] in mapping:
                    cells[column] = mapping.get(told[column])
                self.strokes += 1

    def load(self, index, step, key):
        _, table, missing, match = step
        if key in self.mapping[table]:
            return
        label, cells = self.source[table][key]
        same = [other for other, row in self.base[table].items() if row[0] == label]
        if same and match:
            self.mapping[table][key] = min(same)
            return
        if same and self.unique[table]:
            raise Refusal(index, key, "label")
        made = []
        for column, cell in zip(self.columns[table], cells):
            mapping = self.mapping[self.leads[table, column]]
            if cell is None or cell in mapping:
                made.append(mapping.get(cell))
            elif missing == "refuse":
                raise Refusal(index, key, "missing")
            else:
                made.append(cell if missing == "raw" else None)
        new = max(self.base[table], default=0) + 1
        self.base[table][new] = [label, made]
        self.mapping[table][key] = new
        self.made[table][new] = key
        self.ever[table][new] = key

    def carry(self, stops=()):
        """Run with stops to the end; a stop in front of a stroke leaves it undone."""
        for stop in stops:
            count = 0
            for _ in self.run():
                if count == stop:
                    break
                count += 1
            else:
                return self
            if not self.kept:
                self.forget()
        for _ in self.run():
            pass
        return self

    def losses(self, target):
        """Return what went wrong behind `carry`, where `target` is the plain base of the beginning."""
        found = []
        images = {}
        for table in self.unique:
            images[table] = {}
            for key in sorted(self.source[table]):
                made = [new for new in self.ever[table] if self.ever[table][new] == key]
                new = self.mapping[table].get(key)
                sharing = [other for other in self.mapping[table] if self.mapping[table][other] == new and other < key]
                if not made and new is None:
                    found.append(("never", table, key))
                elif len(made) > 1:
                    found.append(("twice", table, key))
                elif new in self.ever[table] and self.ever[table][new] != key or new in target[table] and sharing:
                    found.append(("merged", table, key))
                else:
                    images[table][key] = made[0] if made else new
        for table in self.unique:
            for new in sorted(self.ever[table]):
                key = self.ever[table][new]
                if key not in images[table]:
                    continue
                for at, column in enumerate(self.columns[table]):
                    old = self.source[table][key][1][at]
                    known = images[self.leads[table, column]]
                    if old is None or old in known:
                        if self.base[table][new][1][at] != (None if old is None else known[old]):
                            found.append(("astray", table, new, column))
        for table in self.unique:
            for key in sorted(target[table]):
                for at, column in enumerate(self.columns[table]):
                    if self.base[table][key][1][at] != target[table][key][1][at]:
                        found.append(("touched", table, key, column))
        return found


def model_losses(script, source, target, stops=()):
    model = Model(script, source, target)
    try:
        model.carry(stops)
    except Refusal as refusal:
        return [("refused", *refusal.args)]
    return model.losses(plain(target))


def model_end(script, source, target):
    """Return the plain target at the end of a run without stops, None if it is refused."""
    try:
        return Model(script, source, target).carry().base
    except Refusal:
        return None


def meaning(script):
    """Return what the first load of each table and the steps for each column come to, without stops.

    A number tells how often a key is translated in the end: in a row that is made of a source row
    whose key was mapped already, in one of another row, and in an old row.
    """
    loads = {}
    columns = {(name, column): [None, None, 0]
               for name, _, refers in script.schema().tables() for column, _ in refers}
    leads = {place: script.schema().target_of(*place) for place in columns}
    for step in script.steps():
        if step[0] == "load" and step[1] not in loads:
            for place in columns:
                if place[0] == step[1]:
                    late = {"raw": 0, "blank": "blank", "refuse": "refused"}[step[2]]
                    columns[place][0] = 1 if leads[place] == step[1] or leads[place] in loads else late
                    columns[place][1] = 1 if leads[place] in loads else late
            loads[step[1]] = step[3]
        elif step[0] != "load" and leads[step[1:]] in loads:
            told = columns[step[1:]]
            for at in (0, 1):
                if step[0] == "fill" and told[at] not in (None, "refused"):
                    told[at] = 1
                elif isinstance(told[at], int):
                    told[at] += 1
            if step[0] == "sweep":
                told[2] += 1
    return loads, columns


def draw_schema(dice, most_tables=3, most_columns=3):
    names = ["a", "b", "c", "d", "e"][:dice.randint(1, most_tables)]
    tables = []
    for name in names:
        columns = ["x", "y", "z"][:dice.randint(0, most_columns)]
        tables.append((name, dice.choice([True, False]), tuple([(column, dice.choice(names)) for column in columns])))
    return Schema(tuple(tables))


def draw_step(dice, schema):
    columns = schema.all_columns()
    if columns and dice.random() < 0.5:
        return (dice.choice(["patch", "fill", "sweep"]), *dice.choice(columns))
    name, unique, _ = dice.choice(schema.tables())
    match = unique if dice.random() < 0.8 else not unique
    return ("load", name, dice.choice(["raw", "raw", "blank", "refuse"]), match)


def draw_script(dice, schema, most_steps=8):
    steps = [draw_step(dice, schema) for _ in range(dice.randint(0, most_steps))]
    return Script(schema, tuple(steps), dice.random() < 0.6)


def draw_base(dice, schema, most_rows=3, most_key=6, labels=4):
    """Return a closed database with small keys and few labels, so that old and new ones often meet."""
    base = Database(schema)
    keys = {}
    for name, unique, _ in schema.tables():
        many = dice.randint(0, most_rows)
        keys[name] = sorted(dice.sample(range(1, most_key + 1), many))
        told = dice.sample(range(labels + many), many) if unique else [dice.randint(0, labels) for _ in range(many)]
        for key, label in zip(keys[name], told):
            base[name, key] = (label, tuple([None for _ in schema.columns(name)]))
    for name, _, refers in schema.tables():
        for key, row in base.rows(name):
            cells = [dice.choice(keys[table] * 2 + [None]) for _, table in refers]
            base[name, key] = (row[0], tuple(cells))
    return base


def draw_stops(dice, most=3, longest=12):
    return tuple([dice.randint(0, longest) for _ in range(dice.randint(0, most))])


def dice_of(seed):
    return random.Random(seed)
