"""What went wrong in the runs of a script."""

from carrykeys.errors import Refused
from carrykeys.runs import run


def losses(script, source, target, stops=()):
    """Carry out a script, and return the list of what went wrong."""
    try:
        outcome = run(script, source, target, stops)
    except Refused as refusal:
        return [("refused", refusal.index, refusal.key, refusal.why)]
    tables = [entry[0] for entry in source.schema().tables()]
    lost = {table: _lost_rows(table, source, outcome) for table in tables}
    images = {table: _images(lost[table], outcome.mapped(table), outcome.made(table)) for table in tables}
    found = [(lost[table][key], table, key) for table in tables for key in lost[table]]
    for table in tables:
        found.extend(_astray(table, source, outcome, images))
    for table in tables:
        found.extend(_touched(table, target, outcome.target()))
    return found


def _lost_rows(table, source, outcome):
    """Return a dict of the keys of the source rows that are lost, ascending, and how."""
    mapping = dict(outcome.mapped(table))
    origins = dict(outcome.made(table))
    lost = {}
    for key, _ in source.rows(table):
        many = len([new for new in origins if origins[new] == key])
        if many == 0 and key not in mapping:
            lost[key] = "never"
        elif many > 1:
            lost[key] = "twice"
        elif key in mapping and _is_merged(key, mapping, origins):
            lost[key] = "merged"
    return lost


def _is_merged(key, mapping, origins):
    new = mapping[key]
    if new in origins:
        return origins[new] != key
    return any([mapping[other] == new for other in mapping if other < key])


def _images(lost, mapped, made):
    """Return a dict of the keys of the source rows that are not lost, and their images."""
    images = {key: new for key, new in mapped if key not in lost}
    # A row that was made is the image, whatever its source row is mapped to.
    for new, key in made:
        if key not in lost:
            images[key] = new
    return images


def _astray(table, source, outcome, images):
    base = outcome.target()
    schema = base.schema()
    found = []
    for new, key in outcome.made(table):
        if key not in images[table]:
            continue
        old_cells = source[table, key][1]
        cells = base[table, new][1]
        for column, old, cell in zip(schema.columns(table), old_cells, cells):
            if _leads_astray(old, cell, images[schema.target_of(table, column)]):
                found.append(("astray", table, new, column))
    return found


def _leads_astray(old, cell, images):
    """Tell whether a cell is wrong, made of the cell `old` of a source row."""
    if old is None:
        return cell is not None
    return old in images and cell != images[old]


def _touched(table, target, base):
    found = []
    for key, row in target.rows(table):
        cells = base[table, key][1]
        for column, old, cell in zip(base.schema().columns(table), row[1], cells):
            if cell != old:
                found.append(("touched", table, key, column))
    return found
