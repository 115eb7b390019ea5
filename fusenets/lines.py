"""Lines: where the greatest of several numbers bends that go straight between known places.

A hill is an object with two methods: bends() tells the ascending whole distances between
which each of its heights(distance), whole numbers, goes straight, with a whole slope.
"""


def greatest(numbers):
    """The greatest of some whole numbers."""
    return max([int(number) for number in numbers])


def crossings(start, stop, starts, stops):
    """Where between two distances the greatest of straight lines may bend."""
    tops = {}
    for low, high in zip(starts, stops):
        slope = (high - low) // (stop - start)
        tops[slope] = greatest([low, tops.get(slope, low)])
    found = {}
    for flat in tops:
        for steep in tops:
            if flat < steep:
                found[start + (tops[flat] - tops[steep]) // (steep - flat)] = True
    return sorted([int(place) for place in found if start < place < stop])


def turns(hill):
    """The tuples (distance, greatest height) at the first and last bend and where the slope changes."""
    bends = hill.bends()
    levels = [(place, hill.heights(place)) for place in bends]
    rows = [(bends[0], greatest(levels[0][1]))]
    for (start, starts), (stop, stops) in zip(levels, levels[1:]):
        rows.extend([(place, greatest(hill.heights(place))) for place in crossings(start, stop, starts, stops)])
        rows.append((stop, greatest(stops)))
    inner = [row for before, row, after in zip(rows, rows[1:], rows[2:]) if is_bent(before, row, after)]
    return rows[:1] + inner + rows[-1:]


def is_bent(before, here, after):
    """Whether the slope changes between three neighbouring tuples (distance, height)."""
    left = (here[1] - before[1]) * (after[0] - here[0])
    right = (after[1] - here[1]) * (here[0] - before[0])
    return left != right
