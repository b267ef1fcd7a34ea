"""Rising lists of tuples, by themselves and by keys."""


def ahead(rows, mark):
    # A tuple of the first parts alone is less than all that begin with them, so it marks where these begin.
    low = 0
    high = len(rows)
    while low < high:
        middle = (low + high) // 2
        if rows[middle] < mark:
            low = middle + 1
        else:
            high = middle
    return low


def with_keys(rows):
    told = []
    for key in sorted(rows):
        told.extend([(key,) + row for row in rows[key]])
    return told
