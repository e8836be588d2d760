"""The errors of the package, each with the fields that tell what was wrong.

The messages show no values, because a field may hold any value: an integer of some
thousand digits, for one, cannot be written into a text.
"""


class CarryError(ValueError):
    """The base of all errors of the package."""

    def __init__(self, words):
        ValueError.__init__(self, words)


class NoKept(CarryError):
    """What tells whether a script keeps is neither True nor False."""


class NoStops(CarryError):
    """The stops are not a tuple of at most 20 integers from 0 on."""


class NotSame(CarryError):
    """Two schemas that must be equal differ."""


class NotSafe(CarryError):
    """A script that must be safe is not."""


class NoFlag(CarryError):
    """What must be True or False is neither."""


class NoStrokes(CarryError):
    """A number of strokes is not an integer from 0 to 1000."""


class NothingBegun(CarryError):
    """A run that has carried out no stroke cannot be stopped."""


class NoSchema(CarryError):
    """The tables of a schema are wrong in the part `part`."""

    def __init__(self, part):
        CarryError.__init__(self, "a part of the schema is wrong")
        self.part = part


class NoTable(CarryError):
    """There is no table called `name`."""

    def __init__(self, name):
        CarryError.__init__(self, "there is no such table")
        self.name = name


class NoColumn(CarryError):
    """The table has no column called `column`."""

    def __init__(self, column):
        CarryError.__init__(self, "the table has no such column")
        self.column = column


class Missing(CarryError):
    """The table `table` has no row with the key `key`."""

    def __init__(self, table, key):
        CarryError.__init__(self, "there is no such row")
        self.table = table
        self.key = key


class NoKey(CarryError):
    """The value `key` is not a key."""

    def __init__(self, key):
        CarryError.__init__(self, "a key is an integer from 1 on")
        self.key = key


class NoRow(CarryError):
    """What is set at the key `key` is not a row of the table `table`."""

    def __init__(self, table, key):
        CarryError.__init__(self, "this is not a row of the table")
        self.table = table
        self.key = key


class Taken(CarryError):
    """Another row of the table `table` has the label `label`."""

    def __init__(self, table, label):
        CarryError.__init__(self, "another row of the table has this label")
        self.table = table
        self.label = label


class NoStep(CarryError):
    """There is no step, or none that is allowed, at `index`."""

    def __init__(self, index):
        CarryError.__init__(self, "there is no step, or a wrong one, at this index")
        self.index = index


class NotClosed(CarryError):
    """The database called `part` has a cell that leads to no row."""

    def __init__(self, part):
        CarryError.__init__(self, "a cell of this database leads to no row")
        self.part = part


class Refused(CarryError):
    """The step at `index` refused the source row with the key `key`, and `why`."""

    def __init__(self, index, key, why):
        CarryError.__init__(self, "a row was refused")
        self.index = index
        self.key = key
        self.why = why


class NoText(CarryError):
    """The line or part `part` of a text has not the form that it must have."""

    def __init__(self, part):
        CarryError.__init__(self, "a part of the text has a wrong form")
        self.part = part
