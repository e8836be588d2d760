"""Whether a script is right or safe for all databases, and databases for which it is not.

Rows of one table never change the cells of a column that does not refer to it, so a
script has a fault if and only if it has one with rows in a single table, or in the table of
one column and the table to which this column refers. For each of these there is one pair of
small databases in which a fault shows if there is one at all: two source rows, so that the
second one is still to come at a stop, and an old row in the target, so that each new key is
one more than the old one. A key that is left old or translated twice then leads astray.
"""

from carrykeys.bases import Database, lone_cell
from carrykeys.errors import NoFlag, NotSafe
from carrykeys.judge import losses
from carrykeys.kinds import is_flag

# In these databases a step goes through two source rows and one old row at most.
MOST_ROWS = 3


def first_fault(script, stopped=True):
    """Return (source, target, stops) for which something goes wrong, or None if nothing ever does."""
    if not is_flag(stopped):
        raise NoFlag("stopped is neither True nor False")
    place = _faulty_place(script, stopped)
    if place is None:
        return None
    source, target = _case(script.schema(), place)
    most = MOST_ROWS * len(script) if stopped else 0
    for stops in [()] + [(count,) for count in range(most)]:
        if losses(script, source, target, stops):
            return source, target, stops
    assert False, "a faulty place shows its fault"


def is_right(script):
    """Tell whether nothing goes wrong for any databases without stops."""
    return _faulty_place(script, False) is None


def is_safe(script):
    """Tell whether nothing goes wrong for any databases and any stops."""
    return _faulty_place(script, True) is None


def needless(script):
    """Return the indexes of the steps without which, each alone, a safe script is safe."""
    if not is_safe(script):
        raise NotSafe("the script is not safe")
    return [index for index in range(len(script)) if is_safe(script.without(index))]


def _faulty_place(script, stopped):
    """Return a tuple of a table, or of a table and a column, in which a fault shows; None if there is none."""
    schema = script.schema()
    loads = _first_loads(script)
    for name, _, _ in schema.tables():
        if not _is_loaded(script, loads, name, stopped):
            return (name,)
    for place in schema.all_columns():
        if not _is_led(script, loads, place, stopped):
            return place
    return None


def _first_loads(script):
    """Return a dict of the tables and the index of the first load of each; a later one finds all rows mapped."""
    loads = {}
    for index, step in enumerate(script.steps()):
        if step[0] == "load" and step[1] not in loads:
            loads[step[1]] = index
    return loads


def _is_loaded(script, loads, table, stopped):
    """Tell whether each row of a table is carried once, whatever labels there are."""
    unique = script.schema().is_unique(table)
    # Where labels are unique, a label that is not matched is refused; elsewhere two rows are merged by it.
    if table not in loads or script[loads[table]][3] != unique:
        return False
    # Without a mapping, only a label tells behind a stop which rows have been made.
    return unique or script.kept or not stopped


def _is_led(script, loads, place, stopped):
    """Tell whether each cell of a column ends right, and each one of an old row as it was."""
    table, column = place
    start = loads[table]
    known = loads[script.schema().target_of(table, column)]
    missing = script[start][2]
    # Whether each key is mapped when the cells are made. A row that refers to itself is not.
    early = known < start
    if missing == "refuse" and not early:
        return False
    # A sweep that finds keys mapped changes old rows.
    if "sweep" in _words_behind(script, place, known):
        return False
    words = _words_behind(script, place, max(start, known))
    if stopped and not script.kept:
        # Rows that were made ahead of a stop are never patched nor filled again.
        return early and "patch" not in words
    if not early and "fill" not in words:
        # All keys are old ones, and a single patch without a stop translates each just once.
        return missing == "raw" and start < known and words == ["patch"] and not stopped
    if stopped:
        # Behind a stop, all steps find rows that were made and keys that are mapped.
        words = _words_behind(script, place, -1)
    # A fill makes good what was patched once more, unless another patch follows.
    return "sweep" not in words and words[-1:] != ["patch"]


def _words_behind(script, place, index):
    """Return the first words of the steps for a column that stand behind an index."""
    return [step[0] for at, step in enumerate(script.steps()) if at > index and step[1:] == place]


def _case(schema, place):
    """Return a source and a target in which a fault of this place shows."""
    if len(place) == 1:
        return _case_of_table(schema, place[0])
    return _case_of_column(schema, place[0], place[1])


def _case_of_table(schema, table):
    source = Database(schema)
    target = Database(schema)
    blank = lone_cell(schema, table)
    target[table, 1] = (1, blank)
    source[table, 1] = (1, blank)
    source[table, 2] = (2 if schema.is_unique(table) else 1, blank)
    return source, target


def _case_of_column(schema, table, column):
    source = Database(schema)
    target = Database(schema)
    other = schema.target_of(table, column)
    # If the column refers to its own table, the later rows take the place of the earlier ones.
    for name, cells in [(other, lone_cell(schema, other)), (table, lone_cell(schema, table, column))]:
        target[name, 1] = (0, cells)
        source[name, 1] = (1, cells)
        source[name, 2] = (2, cells)
    return source, target
