"""Schemas, scripts and databases as texts, and read from them again.

Each text is cut at every separator, so that a separator too many or a space too many leaves
an empty word, which no form allows.
"""

from carrykeys.bases import Database, Schema
from carrykeys.errors import NoText
from carrykeys.kinds import is_name
from carrykeys.scripts import COLUMN_STEPS, MISSING_WORDS, Script

DIGITS = "0123456789"
MOST_DIGITS = 30
NO_ROWS = "empty"


def schema_text(schema):
    """Return the text of a schema, a line for each table."""
    return "\n".join([_table_text(entry) for entry in schema.tables()])


def read_schema(text):
    """Return the schema that a text tells."""
    tables = []
    for at, line in enumerate(_parts(text, "\n")):
        words = line.split(" ")
        if not _is_table(words):
            raise NoText(at)
        tables.append(_table(words))
    return Schema(tuple(tables))


def script_text(script):
    """Return the text of a script, a part for whether it keeps and one for each step."""
    parts = ["kept" if script.kept else "lost"]
    parts.extend([_step_text(step) for step in script.steps()])
    return "; ".join(parts)


def read_script(schema, text):
    """Return the script for databases with a schema that a text tells."""
    parts = _parts(text, "; ")
    if parts[0] not in ("kept", "lost"):
        raise NoText(0)
    steps = []
    for at, part in enumerate(parts[1:], start=1):
        words = part.split(" ")
        if not _is_load(words) and not _is_column_step(words):
            raise NoText(at)
        steps.append(_step(words))
    return Script(schema, tuple(steps), parts[0] == "kept")


def base_text(base):
    """Return the text of a database, a line for each row."""
    tables = [entry[0] for entry in base.schema().tables()]
    lines = [_row_text(table, key, row) for table in tables for key, row in base.rows(table)]
    return "\n".join(lines) if lines else NO_ROWS


def read_base(schema, text):
    """Return the database with a schema that a text tells."""
    base = Database(schema)
    lines = _parts(text, "\n")
    # Each line is asked for its form before the first one is asked for its label.
    entries = [] if lines == [NO_ROWS] else _entries(schema, lines)
    for table, key, row in entries:
        base[table, key] = row
    return base


def _parts(text, separator):
    if not isinstance(text, str):
        raise NoText(0)
    return text.split(separator)


def _table_text(entry):
    name, unique, references = entry
    words = [name, "unique" if unique else "any"]
    words.extend([f"{column}>{target}" for column, target in references])
    return " ".join(words)


def _is_table(words):
    if len(words) < 2 or not is_name(words[0]) or words[1] not in ("unique", "any"):
        return False
    return all([_is_reference(word) for word in words[2:]])


def _is_reference(word):
    names = word.split(">")
    return len(names) == 2 and all([is_name(name) for name in names])


def _table(words):
    references = [tuple(word.split(">")) for word in words[2:]]
    return words[0], words[1] == "unique", tuple(references)


def _step_text(step):
    if step[0] != "load":
        return " ".join(step)
    word, table, missing, matching = step
    return " ".join([word, table, missing, "match"] if matching else [word, table, missing])


def _is_load(words):
    if len(words) < 3 or words[0] != "load" or words[3:] not in ([], ["match"]):
        return False
    return is_name(words[1]) and words[2] in MISSING_WORDS


def _is_column_step(words):
    return len(words) == 3 and words[0] in COLUMN_STEPS and is_name(words[1]) and is_name(words[2])


def _step(words):
    if words[0] != "load":
        return tuple(words)
    return words[0], words[1], words[2], len(words) == 4


def _row_text(table, key, row):
    label, cells = row
    words = [table, str(key), str(label)]
    words.extend(["-" if cell is None else str(cell) for cell in cells])
    return " ".join(words)


def _entries(schema, lines):
    """Return the list of tuples (table, key, row) that some lines tell, which stand in order."""
    tables = [entry[0] for entry in schema.tables()]
    entries = []
    ahead = (0, 0)
    for at, line in enumerate(lines):
        words = line.split(" ")
        if not _is_entry(schema, words):
            raise NoText(at)
        place = (tables.index(words[0]), int(words[1]))
        if place <= ahead:
            raise NoText(at)
        ahead = place
        entries.append(_entry(words))
    return entries


def _is_entry(schema, words):
    widths = {entry[0]: len(entry[2]) for entry in schema.tables()}
    if words[0] not in widths or len(words) != 3 + widths[words[0]]:
        return False
    if not _is_key(words[1]) or not _is_number(words[2]):
        return False
    return all([word == "-" or _is_key(word) for word in words[3:]])


def _entry(words):
    cells = [None if word == "-" else int(word) for word in words[3:]]
    return words[0], int(words[1]), (int(words[2]), tuple(cells))


def _is_key(word):
    return _is_number(word) and word != "0"


def _is_number(word):
    if not 1 <= len(word) <= MOST_DIGITS or not all([digit in DIGITS for digit in word]):
        return False
    return word == "0" or word[0] != "0"
