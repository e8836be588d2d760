"""Schemas, and databases whose rows have a key and a label."""

from carrykeys.errors import Missing, NoColumn, NoKey, NoRow, NoSchema, NoTable, Taken
from carrykeys.kinds import are_tables, is_key, is_one_of, is_row, is_whole, refer_within


class Schema:
    """The tables of a database, and to which table each column refers. It never changes."""

    def __init__(self, tables):
        if not are_tables(tables):
            raise NoSchema("tables")
        if not refer_within(tables):
            raise NoSchema("references")
        self._tables = tables
        self._entries = {entry[0]: entry for entry in tables}

    def __eq__(self, other):
        return isinstance(other, Schema) and self._tables == other._tables

    def tables(self):
        """Return the tuple of tuples (name, unique, references)."""
        return self._tables

    def columns(self, name):
        """Return the names of the columns of a table."""
        return tuple([column for column, _ in self._entry(name)[2]])

    def target_of(self, name, column):
        """Return the name of the table to which a column of a table refers."""
        targets = {known: target for known, target in self._entry(name)[2]}
        if not is_one_of(column, targets):
            raise NoColumn(column)
        return targets[column]

    def is_unique(self, name):
        """Tell whether the labels of a table are unique."""
        return self._entry(name)[1]

    def all_columns(self):
        """Return all tuples (table, column), table by table."""
        return [(entry[0], column) for entry in self._tables for column, _ in entry[2]]

    def _entry(self, name):
        if not is_one_of(name, self._entries):
            raise NoTable(name)
        return self._entries[name]


class Database:
    """Rows (label, cells) of the tables of a schema, each under a key of its table."""

    def __init__(self, schema):
        # A schema of its own, because nothing that is passed may be kept.
        self._schema = Schema(schema.tables())
        self._rows = {entry[0]: {} for entry in schema.tables()}

    def __getitem__(self, at):
        table, key = at
        if not self._has(table, key):
            raise Missing(table, key)
        return self._rows[table][key]

    def __setitem__(self, at, worth):
        table, key = at
        width = len(self._schema.columns(table))
        if not is_key(key):
            raise NoKey(key)
        if not is_row(worth, width):
            raise NoRow(table, key)
        if self._is_taken(table, key, worth[0]):
            raise Taken(table, worth[0])
        self._rows[table][key] = worth

    def __contains__(self, x):
        return isinstance(x, tuple) and len(x) == 2 and self._has(x[0], x[1])

    # Without this, Python would iterate by the indexes 0, 1, .., which are no rows.
    def __iter__(self):
        raise TypeError("a database is not iterated over")

    def __len__(self):
        return len([key for table in self._rows for key in self._rows[table]])

    def __eq__(self, other):
        return isinstance(other, Database) and self._schema == other._schema and self._rows == other._rows

    def drop(self, table, key):
        """Remove a row."""
        if not self._has(table, key):
            raise Missing(table, key)
        del self._rows[table][key]

    def rows(self, table):
        """Return the list of tuples (key, row) of a table, ascending by key."""
        held = self._held(table)
        return [(key, held[key]) for key in sorted(held)]

    def schema(self):
        """Return the schema."""
        return self._schema

    def twin(self):
        """Return an independent copy."""
        other = Database(self._schema)
        other._rows = {table: dict(self._rows[table]) for table in self._rows}
        return other

    def next_key(self, table):
        """Return one more than the greatest key of a table, 1 if it has no rows."""
        return max(self._held(table), default=0) + 1

    def is_closed(self):
        """Tell whether each cell that is not blank leads to a row."""
        for table, column in self._schema.all_columns():
            if not self._leads(table, column):
                return False
        return True

    def _has(self, table, key):
        return is_one_of(table, self._rows) and is_whole(key) and key in self._rows[table]

    def _held(self, table):
        if not is_one_of(table, self._rows):
            raise NoTable(table)
        return self._rows[table]

    def _is_taken(self, table, key, label):
        if not self._schema.is_unique(table):
            return False
        held = self._rows[table]
        return label in [held[other][0] for other in held if other != key]

    def _leads(self, table, column):
        """Tell whether each cell of a column is blank or the key of a row."""
        at = self._schema.columns(table).index(column)
        targets = self._rows[self._schema.target_of(table, column)]
        cells = [row[1][at] for row in self._rows[table].values()]
        return all([cell is None or cell in targets for cell in cells])


def lone_cell(schema, table, column=None):
    """Return the cells of a row that are all blank but for a 1 in the column, if one is told."""
    return tuple([1 if name == column else None for name in schema.columns(table)])
