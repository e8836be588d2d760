"""Whether two scripts do the same for all databases without stops, and databases for which they do not.

A second load of a table finds all rows mapped, so an old row, a source row with its label and
others with other labels tell all loads of a table apart. What becomes of a cell depends on
its column alone: on whether its key was mapped when the row was made, and on how often the
key is translated. So three cases for each column are enough, each with a single row that is
not blank: an old row, the first source row, which leads to itself if the column refers to its
own table, and a source row behind the one to which it leads. Each has a case of its own,
because a row that is refused would hide what becomes of another one.
"""

from carrykeys.bases import Database, lone_cell
from carrykeys.errors import NotSame, Refused
from carrykeys.runs import run
from carrykeys.scripts import MOST_STEPS


def told_apart(script, other):
    """Return (source, target) for which the two scripts differ, or None if they never do."""
    schema = script.schema()
    if other.schema() != schema:
        raise NotSame("the two scripts have different schemas")
    for source, target in _cases(schema):
        if _end(script, source, target) != _end(other, source, target):
            return source, target
    return None


def _end(script, source, target):
    """Return the target at the end of a run, None if it is refused."""
    try:
        return run(script, source, target).target()
    except Refused:
        return None


def _cases(schema):
    """Return the tuples (source, target) among which two scripts differ if they differ at all."""
    cases = [_case_of_table(schema, entry[0]) for entry in schema.tables()]
    for table, column in schema.all_columns():
        cases.append(_case_of_old_row(schema, table, column))
        # If the column refers to its own table, the first row leads to itself.
        for key in (1, 2):
            cases.append(_case_of_new_row(schema, table, column, key))
    return cases


def _case_of_table(schema, table):
    source, target = _chain(schema, table)
    # The first row gets the label of the old one.
    source[table, 1] = (0, lone_cell(schema, table))
    return source, target


def _case_of_old_row(schema, table, column):
    source, target = _chain(schema, schema.target_of(table, column))
    target[table, 1] = (0, lone_cell(schema, table, column))
    return source, target


def _case_of_new_row(schema, table, column, key):
    source, target = _chain(schema, schema.target_of(table, column))
    source[table, key] = (key, lone_cell(schema, table, column))
    return source, target


def _chain(schema, table):
    """Return a source and a target in which each new key of a table is the next old one.

    So the key in a cell tells how often it was translated. A step translates it once at most,
    and the chain is as long as a script may be.
    """
    source = Database(schema)
    target = Database(schema)
    blank = lone_cell(schema, table)
    target[table, 1] = (0, blank)
    for key in range(1, MOST_STEPS + 1):
        source[table, key] = (key, blank)
    return source, target
