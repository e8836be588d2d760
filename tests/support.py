"""What several test files need."""

from carrykeys.bases import Database, Schema
from carrykeys.scripts import Script

TABLES = (("city", True, ()), ("person", False, (("home", "city"), ("boss", "person"))))


class Agreeing:
    """Equal to everything, as a wrong value may claim to be."""

    def __eq__(self, other):
        return True

    def __hash__(self):
        return 1


# Values that are no names, integers from 0 on, tuples of the right form, True or False.
# Neither may be shown in a message: the longest integer cannot be written as a text.
STRANGE = [
    None, 1.0, 2.5, "", "None", "True", "1", b"city", [], ["city"], ["city", 1], {}, {"city": 1},
    {1}, object(), int, len, Agreeing(), ("city", [1]), ((), [[]]), -1, -(10 ** 5000), [10 ** 5000],
]
FLAGS = [True, False]


def strange(*more):
    """Return tuples (number, value), because not every value can be shown by a subtest."""
    return list(enumerate(STRANGE + list(more)))


def example_schema():
    return Schema(TABLES)


def example_base():
    base = Database(example_schema())
    base["city", 4] = (100, ())
    base["person", 1] = (7, (4, 2))
    base["person", 2] = (8, (4, None))
    return base


def base_of(schema, rows=None):
    """Return a database with the rows of a dict of tables, each a dict of keys and rows."""
    base = Database(schema)
    for table, held in (rows or {}).items():
        for key, row in held.items():
            base[table, key] = row
    return base


def script_of(schema, text, kept=True):
    """Return the script of the steps in a text, in which "load a raw" does not match."""
    steps = []
    for part in text.split("; ") if text else []:
        words = part.split(" ")
        if words[0] == "load":
            words = words[:3] + [words[3:] == ["match"]]
        steps.append(tuple(words))
    return Script(schema, tuple(steps), kept)


def contents(base):
    """Return all rows of a database as plain values."""
    return [(entry[0], base.rows(entry[0])) for entry in base.schema().tables()]


def raised(test, error, call, *arguments, **named):
    """Check that a call raises exactly this error, and return the error."""
    with test.assertRaises(error) as caught:
        call(*arguments, **named)
    test.assertIs(caught.exception.__class__, error)
    return caught.exception
