"""All ways to choose."""


def one_of_each(rows):
    """All tuples with one item of each row, in the order of the rows; the first item changes slowest."""
    found = [()]
    for row in rows:
        found = [chosen + (item,) for chosen in found for item in row]
    return found


def choices(items, count):
    """All tuples of so many of the items, which keep their order; ascending if the items are."""
    found = [()]
    for size in range(1, count + 1):
        found = [chosen + (item,) for chosen in found for item in items_behind(items, chosen)]
    return found


def items_behind(items, chosen):
    """The items, all different, that come behind the last one chosen."""
    if len(chosen) == 0:
        return items
    return items[items.index(chosen[-1]) + 1:]
