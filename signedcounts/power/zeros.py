"""Where sums of binomials are 0, and where they are small.

The parts c(0), c(1), .. of a sum stand for C(n, 0) c(0) + C(n, 1) c(1) + .., for any integer n.
"""

from signedcounts.count.counts import binomials

_FEW = 100


def sum_at(parts, number):
    """The sum for the number."""
    row = binomials(number, len(parts) - 1)
    return sum([ways * part for ways, part in zip(row, parts)])


def zeros(parts):
    """The ascending integers for which the sum is 0; the last part is not the only one, and is not 0."""
    turns = _turns(parts)
    found = []
    for low, high in zip(turns, turns[1:]):
        if sum_at(parts, low) == 0:
            found.extend(list(range(low, high)))
    return found


def place_within(sums, limit, tries):
    """An integer for which no sum is beyond the limit, signs aside, if there is one; those to try come first."""
    most, place = _least(sums, tries)
    if most <= limit:
        return place
    return _least(sums, tries + [low for low, high in _ranges_within(sums, limit)])[1]


def _least(sums, places):
    """The least that the greatest of the sums is, signs aside, for one of the places, and this place."""
    return min([(max([abs(sum_at(parts, place)) for parts in sums]), place) for place in places])


def _ranges_within(sums, limit):
    """Ranges, as their first and last integers, with all places at which no sum is beyond the limit."""
    ordered = sorted([_with_size(parts) for parts in sums])
    ranges = None
    for size, parts in ordered:
        if size > 1:
            ranges = _whole_ranges(parts, limit) if ranges is None else _parts_within(ranges, parts, limit)
            if sum([high - low + 1 for low, high in ranges]) <= _FEW:
                return [(place, place) for low, high in ranges for place in range(low, high + 1)]
    return [] if ranges is None else ranges


def _whole_ranges(parts, limit):
    """At most one range, beyond which a sum that changes is beyond the limit."""
    ends = sorted(_turns([parts[0] - limit] + parts[1:]) + _turns([parts[0] + limit] + parts[1:]))
    return [(ends[0], ends[-1])] if ends else []


def _parts_within(ranges, parts, limit):
    """The parts of the ranges in which a sum is not beyond the limit."""
    found = []
    for low, high in ranges:
        # Between two neighbouring ends, the sum is at each place within the limit, or at none.
        turns = _turns_inside([parts[0] - limit] + parts[1:], low, high)
        ends = [low] + sorted(turns + _turns_inside([parts[0] + limit] + parts[1:], low, high)) + [high + 1]
        for start, end in zip(ends, ends[1:]):
            if start < end and abs(sum_at(parts, start)) <= limit:
                found.append((start, end - 1))
    return found


def _with_size(parts):
    """The parts without zeros at their end, and ahead of them their number."""
    found = list(parts)
    while len(found) > 1 and found[-1] == 0:
        found.pop()
    return len(found), found


def _turns(parts):
    """The ascending integers at which the sum has another sign than one below."""
    if len(parts) == 1:
        return []
    # The sum grows from n to n + 1 by the sum that the later parts stand for. So from one turn
    # of that one to the next it only rises, only falls or stays.
    return _turns_by_ends(parts, _with_far_ends(parts, _turns(parts[1:])))


def _turns_inside(parts, low, high):
    """The turns above `low` up to `high`."""
    if len(parts) == 1:
        return []
    return _turns_by_ends(parts, [low] + _turns_inside(parts[1:], low, high) + [high])


def _turns_by_ends(parts, ends):
    found = []
    for low, high in zip(ends, ends[1:]):
        found.extend(_turns_between(parts, low, high))
    return found


def _with_far_ends(parts, turns):
    """The turns, with an integer below and one above, beyond which the sum keeps its sign."""
    low = turns[0] if turns else 0
    high = turns[-1] if turns else 0
    above = _sign(parts[-1])
    below = above if len(parts) % 2 == 1 else -above
    return [_far_end(parts, low, -1, below)] + turns + [_far_end(parts, high, 1, above)]


def _far_end(parts, start, step, sign):
    """An integer, on this side of the start, for which the sum has the sign that it keeps there."""
    place = start
    many = step
    while _sign(sum_at(parts, place)) != sign:
        place = start + many
        many = many * 2
    return place


def _turns_between(parts, low, high):
    """The turns above `low` up to `high`, between which the sum only rises, only falls or stays."""
    last = _sign(sum_at(parts, high))
    found = []
    place = low
    while _sign(sum_at(parts, place)) != last:
        place = _first_unlike(parts, place, high)
        found.append(place)
    return found


def _first_unlike(parts, low, high):
    """The first integer for which the sum has another sign than at `low`; at `high` it has one."""
    sign = _sign(sum_at(parts, low))
    below = low
    above = high
    while above - below > 1:
        middle = (below + above) // 2
        if _sign(sum_at(parts, middle)) == sign:
            below = middle
        else:
            above = middle
    return above


def _sign(number):
    if number == 0:
        return 0
    return 1 if number > 0 else -1
