"""Ascending lists."""


def place_of(rows, row):
    """Return the first index of an ascending list before which the row may stand."""
    low = 0
    high = len(rows)
    while low < high:
        middle = (low + high) // 2
        if rows[middle] < row:
            low = middle + 1
        else:
            high = middle
    return low
