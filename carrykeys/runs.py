"""Runs: a script carried out on a copy of a target, in one go with stops or stroke by stroke."""

from carrykeys.errors import NoStops, NoStrokes, NoTable, NotClosed, NothingBegun, NotSame, Refused
from carrykeys.kinds import is_one_of, is_whole

MOST_STOPS = 20
MOST_STROKES = 1000


def run(script, source, target, stops=()):
    """Carry out a script on a copy of the target, and return an Outcome.

    `stops` tells behind how many strokes each run but the last one is stopped.
    """
    _check(script, source, target)
    if not _are_stops(stops):
        raise NoStops("the stops are not a tuple of at most 20 integers from 0 on")
    work = Work(script.steps(), script.kept, source, target)
    for stop in stops:
        work.carry(stop)
        if work.is_over():
            return Outcome(work)
        work.restart()
    while not work.is_over():
        work.carry(MOST_STROKES)
    return Outcome(work)


class Outcome:
    """What there is at the end of the runs of a script."""

    def __init__(self, work):
        self._work = work

    @property
    def strokes(self):
        """The number of strokes of all runs together."""
        return self._work.total

    def target(self):
        """Return an independent copy of the target."""
        return self._work.target()

    def mapped(self, table):
        """Return the list of tuples (old key, new key) of the mapping of a table."""
        return self._work.mapped(table)

    def made(self, table):
        """Return the list of tuples (key, old key) of all rows of a table that were made in any run."""
        return self._work.made(table)


class Carrier:
    """A script that is carried out stroke by stroke on copies of a source and a target."""

    def __init__(self, script, source, target):
        _check(script, source, target)
        self._work = Work(script.steps(), script.kept, source, target)
        self._end = len(script)

    @property
    def place(self):
        """The index of the step to which the next stroke belongs, the number of steps if there is none."""
        return self._work.ahead

    @property
    def done(self):
        """Whether there is no next stroke."""
        return self._work.ahead == self._end

    @property
    def strokes(self):
        """The number of all strokes."""
        return self._work.total

    def go(self, strokes=1):
        """Carry out at most so many strokes, and return how many it were."""
        if not is_whole(strokes) or not 0 <= strokes <= MOST_STROKES:
            raise NoStrokes("the number of strokes is not an integer from 0 to 1000")
        # On a copy, which a refusal leaves behind, so that everything is as before.
        work = self._work.twin()
        many = work.carry(strokes)
        self._work = work
        return many

    def again(self):
        """Stop the run, and begin again from the first step."""
        if not self._work.begun:
            raise NothingBegun("no stroke has been carried out that could be stopped")
        self._work.restart()

    def target(self):
        """Return an independent copy of the target as it is now."""
        return self._work.target()

    def mapped(self, table):
        """Return the list of tuples (old key, new key) of the mapping of a table as it is now."""
        return self._work.mapped(table)

    def made(self, table):
        """Return the list of tuples (key, old key) of all rows of a table that were made in any run."""
        return self._work.made(table)


class Work:
    """The steps of a script while they are carried out on copies of a source and a target.

    `total` is the number of strokes of all runs, `begun` whether this run has had one, and
    `ahead` the index of the step of the next stroke, or the number of steps.
    """

    def __init__(self, steps, kept, source, target):
        self._steps = steps
        self._kept = kept
        self._source = source.twin()
        self._base = target.twin()
        self._schema = self._source.schema()
        self._mapping = self._nothing()
        # A stop may empty the fresh rows, through which patch and fill go; of which source row
        # each row was made is told at the end all the same.
        self._fresh = self._nothing()
        self._origins = self._nothing()
        self.total = 0
        self._begin()

    def twin(self):
        """Return an independent copy."""
        other = Work(self._steps, self._kept, self._source, self._base)
        other._mapping = _copies(self._mapping)
        other._fresh = _copies(self._fresh)
        other._origins = _copies(self._origins)
        other._queue = list(self._queue)
        other.total = self.total
        other.begun = self.begun
        other.ahead = self.ahead
        return other

    def target(self):
        """Return an independent copy of the target."""
        return self._base.twin()

    def mapped(self, table):
        """Return the list of tuples (old key, new key) of the mapping of a table."""
        return _pairs(self._mapping, table)

    def made(self, table):
        """Return the list of tuples (key, old key) of all rows of a table that were ever made."""
        return _pairs(self._origins, table)

    def is_over(self):
        """Tell whether there is no next stroke."""
        return self.ahead == len(self._steps)

    def carry(self, most):
        """Carry out at most so many strokes, and return how many it were."""
        many = 0
        while many < most and not self.is_over():
            self._stroke()
            many += 1
        return many

    def restart(self):
        """Begin again from the first step, with what the script keeps."""
        if not self._kept:
            self._mapping = self._nothing()
            self._fresh = self._nothing()
        self._begin()

    def _nothing(self):
        return {entry[0]: {} for entry in self._schema.tables()}

    def _begin(self):
        self.begun = False
        self.ahead = 0
        self._queue = self._rows_ahead()
        self._pass_idle_steps()

    def _pass_idle_steps(self):
        """Go on to the next step that has a row left to go through."""
        while not self._queue and not self.is_over():
            self.ahead += 1
            self._queue = self._rows_ahead()

    def _rows_ahead(self):
        """Return the keys of the rows that the step ahead goes through."""
        if self.is_over():
            return []
        step = self._steps[self.ahead]
        if step[0] == "load":
            return [key for key, _ in self._source.rows(step[1])]
        if step[0] == "sweep":
            return [key for key, _ in self._base.rows(step[1])]
        return sorted(self._fresh[step[1]])

    def _stroke(self):
        step = self._steps[self.ahead]
        key = self._queue[0]
        if step[0] == "load":
            self._load(step, key)
        elif step[0] == "fill":
            self._fill(step, key)
        else:
            self._patch(step, key)
        self._queue = self._queue[1:]
        self.total += 1
        self.begun = True
        self._pass_idle_steps()

    def _load(self, step, key):
        _, table, _, matching = step
        if key in self._mapping[table]:
            return
        holders = []
        # Not asked for nothing, because a target may have very many rows behind some stops.
        if matching or self._schema.is_unique(table):
            holders = self._holders(table, self._source[table, key][0])
        if not holders:
            self._make(step, key)
        elif matching:
            self._mapping[table][key] = holders[0]
        else:
            raise Refused(self.ahead, key, "label")

    def _holders(self, table, label):
        """Return the keys of the rows of the target that have a label."""
        return [key for key, row in self._base.rows(table) if row[0] == label]

    def _make(self, step, key):
        table = step[1]
        label, cells = self._source[table, key]
        columns = self._schema.columns(table)
        carried = [self._carried(step, key, column, cell) for column, cell in zip(columns, cells)]
        new = self._base.next_key(table)
        self._base[table, new] = (label, tuple(carried))
        # Only now, because a row that refers to itself is not mapped yet when its cells are made.
        self._mapping[table][key] = new
        self._fresh[table][new] = True
        self._origins[table][new] = key

    def _carried(self, step, key, column, cell):
        """Return what becomes of a cell of the source row with this key."""
        _, table, missing, _ = step
        new = self._led(table, column, cell)
        if new is None and cell is not None and missing == "refuse":
            raise Refused(self.ahead, key, "missing")
        if new is None and missing == "raw":
            return cell
        return new

    def _led(self, table, column, cell):
        """Return the key to which the key in a cell is mapped; None if it is not, or blank."""
        return self._mapping[self._schema.target_of(table, column)].get(cell)

    def _patch(self, step, key):
        _, table, column = step
        new = self._led(table, column, _cell(self._base, table, column, key))
        if new is not None:
            self._put(table, column, key, new)

    def _fill(self, step, key):
        _, table, column = step
        cell = _cell(self._source, table, column, self._origins[table][key])
        new = self._led(table, column, cell)
        if cell is None or new is not None:
            self._put(table, column, key, new)

    def _put(self, table, column, key, cell):
        label, cells = self._base[table, key]
        at = self._schema.columns(table).index(column)
        self._base[table, key] = (label, cells[:at] + (cell,) + cells[at + 1:])


def _check(script, source, target):
    schema = script.schema()
    if source.schema() != schema or target.schema() != schema:
        raise NotSame("the script, the source and the target have different schemas")
    if not source.is_closed():
        raise NotClosed("source")
    if not target.is_closed():
        raise NotClosed("target")


def _are_stops(value):
    if not isinstance(value, tuple) or len(value) > MOST_STOPS:
        return False
    return all([is_whole(item) and item >= 0 for item in value])


def _cell(base, table, column, key):
    return base[table, key][1][base.schema().columns(table).index(column)]


def _pairs(held, table):
    if not is_one_of(table, held):
        raise NoTable(table)
    entries = held[table]
    return [(key, entries[key]) for key in sorted(entries)]


def _copies(held):
    return {table: dict(held[table]) for table in held}
