"""Two colours for the ties of a web, as even as they can be."""

from tiehalves.answers import Even, Odd
from tiehalves.webs import bars_two, check_web, far_end, parts_of, ties_at


def halved(places, ties):
    """An Even, or an Odd where some part bars it."""
    check_web(places, ties)
    for part in parts_of(places, ties):
        if bars_two(part, ties):
            return Odd(part)
    return Even(two_colours(places, ties))


def nearly(places, ties):
    """Two colours, even but at one place in each part that bars it."""
    check_web(places, ties)
    return two_colours(places, ties)


def two_colours(places, ties):
    """Colours in turn along rounds over all ties."""
    joined = list(ties) + odd_ends(places, ties)
    left = [ties_at(place, joined) for place in range(places + 1)]
    used = [False] * len(joined)
    colours = [0] * len(joined)
    # The first and the last tie of a round may get one colour, which only its start feels. So the added
    # place comes first: then another place is a start only where its part has no odd place.
    for start in [places] + list(range(places)):
        walk = round_from(start, joined, left, used)
        for k, tie in enumerate(walk):
            colours[tie] = k % 2
    return colours[:len(ties)]


def odd_ends(places, ties):
    """Ties to one more place, so that each place has an even count of ties."""
    return [(place, places) for place in range(places) if len(ties_at(place, ties)) % 2 == 1]


def round_from(start, ties, left, used):
    """All ties not yet used that are joined to the start, as one round from it and to it."""
    done = []
    path = [(start, None)]
    while path:
        place, came = path[-1]
        k = take_tie(left[place], used)
        if k is not None:
            path.append((far_end(ties[k], place), k))
        else:
            path.pop()
            if came is not None:
                done.append(came)
    return done


def take_tie(row, used):
    """Take a tie not yet used off the row, or None where there is none."""
    while row:
        k = row.pop()
        # A tie stands in the rows of both its places, but it is gone over once.
        if not used[k]:
            used[k] = True
            return k
    return None
