"""Sorting by a comparison, for what Python itself compares otherwise than the document."""


def sorted_by(rows, is_below):
    """The rows as a list, in order; those of which neither is below the other stay as they stood."""
    if len(rows) < 2:
        return list(rows)
    middle = len(rows) // 2
    return merged(sorted_by(rows[:middle], is_below), sorted_by(rows[middle:], is_below), is_below)


def merged(left, right, is_below):
    out = []
    i = j = 0
    while i < len(left) and j < len(right):
        if is_below(right[j], left[i]):
            out.append(right[j])
            j += 1
        else:
            out.append(left[i])
            i += 1
    return out + left[i:] + right[j:]
