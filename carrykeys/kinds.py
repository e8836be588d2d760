"""Which values are integers, flags, names, keys, rows and tables.

Each function here takes any value. The kind of a value is asked before the value is
compared or looked up, because True equals 1 and a list cannot be looked up in a dict.
"""

LETTERS = "abcdefghijklmnopqrstuvwxyz"
LONGEST_NAME = 8
LABELS_END = 10 ** 30
MOST_TABLES = 5
MOST_REFERENCES = 3


def is_whole(value):
    """Tell whether the value is an integer; True and False are none."""
    return isinstance(value, int) and not isinstance(value, bool)


def is_flag(value):
    """Tell whether the value is True or False."""
    return value is True or value is False


def is_one_of(value, words):
    """Tell whether the value is one of these strings."""
    return isinstance(value, str) and value in words


def is_name(value):
    """Tell whether the value is a name of a table or a column."""
    if not isinstance(value, str) or not 1 <= len(value) <= LONGEST_NAME:
        return False
    return all([letter in LETTERS for letter in value])


def is_key(value):
    """Tell whether the value is a key of a row."""
    return is_whole(value) and value >= 1


def is_label(value):
    """Tell whether the value is a label of a row."""
    return is_whole(value) and 0 <= value < LABELS_END


def is_row(value, width):
    """Tell whether the value is a row of a table with so many columns."""
    if not isinstance(value, tuple) or len(value) != 2:
        return False
    label, cells = value
    if not is_label(label) or not isinstance(cells, tuple) or len(cells) != width:
        return False
    return all([cell is None or is_key(cell) for cell in cells])


def are_tables(value):
    """Tell whether the value is such a tuple as describes the tables of a schema."""
    if not isinstance(value, tuple) or not 1 <= len(value) <= MOST_TABLES:
        return False
    if not all([_is_table(item) for item in value]):
        return False
    return _are_distinct([item[0] for item in value])


def refer_within(tables):
    """Tell whether each column of such tables refers to one of the tables."""
    names = [item[0] for item in tables]
    return all([target in names for item in tables for _, target in item[2]])


def _is_table(value):
    if not isinstance(value, tuple) or len(value) != 3:
        return False
    name, unique, references = value
    return is_name(name) and is_flag(unique) and _are_references(references)


def _are_references(value):
    if not isinstance(value, tuple) or len(value) > MOST_REFERENCES:
        return False
    if not all([_is_reference(item) for item in value]):
        return False
    return _are_distinct([item[0] for item in value])


def _is_reference(value):
    if not isinstance(value, tuple) or len(value) != 2:
        return False
    column, target = value
    return is_name(column) and is_name(target)


def _are_distinct(names):
    return len(set(names)) == len(names)
