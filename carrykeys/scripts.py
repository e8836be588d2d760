"""Scripts: the steps by which rows are carried."""

from carrykeys.bases import Schema
from carrykeys.errors import NoKept, NoStep, NotSame
from carrykeys.kinds import is_flag, is_one_of, is_whole

MOST_STEPS = 20
MISSING_WORDS = ("raw", "blank", "refuse")
COLUMN_STEPS = ("patch", "fill", "sweep")


class Script:
    """The steps for databases with a schema, and whether a mapping is kept over a stop. It never changes."""

    def __init__(self, schema, steps, kept=True):
        if not isinstance(steps, tuple):
            raise NoStep(0)
        for index, step in enumerate(steps):
            if index >= MOST_STEPS or not _is_step(schema, step):
                raise NoStep(index)
        if not is_flag(kept):
            raise NoKept("kept is neither True nor False")
        # A schema of its own, because nothing that is passed may be kept.
        self._schema = Schema(schema.tables())
        self._steps = steps
        self._kept = kept

    def __getitem__(self, at):
        if not self._has(at):
            raise NoStep(at)
        return self._steps[at]

    # Without this, Python would iterate by indexes and end in a NoStep.
    def __iter__(self):
        raise TypeError("a script is not iterated over: take its steps()")

    def __len__(self):
        return len(self._steps)

    def __eq__(self, other):
        if not isinstance(other, Script):
            return False
        return self._schema == other._schema and self._steps == other._steps and self._kept == other._kept

    def __add__(self, other):
        if self._schema != other._schema:
            raise NotSame("the two scripts have different schemas")
        return Script(self._schema, self._steps + other._steps, self._kept)

    @property
    def kept(self):
        """Whether the mapping and the set of made rows stay over a stop."""
        return self._kept

    def steps(self):
        """Return the tuple of the steps."""
        return self._steps

    def schema(self):
        """Return the schema."""
        return self._schema

    def without(self, index):
        """Return the script without one step."""
        if not self._has(index):
            raise NoStep(index)
        return Script(self._schema, self._steps[:index] + self._steps[index + 1:], self._kept)

    def _has(self, index):
        return is_whole(index) and 0 <= index < len(self._steps)


def _is_step(schema, value):
    if not isinstance(value, tuple):
        return False
    if len(value) == 4:
        return _is_load(schema, value)
    return len(value) == 3 and _is_column_step(schema, value)


def _is_load(schema, value):
    word, table, missing, matching = value
    if not is_one_of(word, ("load",)) or not is_one_of(missing, MISSING_WORDS) or not is_flag(matching):
        return False
    return is_one_of(table, [entry[0] for entry in schema.tables()])


def _is_column_step(schema, value):
    word, table, column = value
    if not is_one_of(word, COLUMN_STEPS) or not isinstance(table, str) or not isinstance(column, str):
        return False
    return (table, column) in schema.all_columns()
