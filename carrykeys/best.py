"""The safe script with the fewest steps that keeps.

Each table needs a load. A column is right at once if the table to which it refers is loaded
ahead of its own; every other one needs a fill, because behind a stop a patch would translate
once more. So the order of the loads decides, and there are few orders of five tables.
"""

from carrykeys.scripts import Script


def best_script(schema):
    """Return a safe script that keeps, with as few steps as any such script has."""
    orders = _orders([entry[0] for entry in schema.tables()])
    best = min(orders, key=lambda order: len(_late_columns(schema, order)))
    loads = [("load", table, "raw", schema.is_unique(table)) for table in best]
    fills = [("fill", table, column) for table, column in _late_columns(schema, best)]
    return Script(schema, tuple(loads + fills))


def fewest_steps(schema):
    """Return the number of steps of the shortest safe scripts that keep."""
    return len(best_script(schema))


def _orders(names):
    """Return the list of all orders of some names."""
    orders = [[]]
    for name in names:
        orders = [order[:at] + [name] + order[at:] for order in orders for at in range(len(order) + 1)]
    return orders


def _late_columns(schema, order):
    """Return the columns that refer to their own table, or to one that is loaded behind it."""
    late = []
    for table, column in schema.all_columns():
        if order.index(table) <= order.index(schema.target_of(table, column)):
            late.append((table, column))
    return late
