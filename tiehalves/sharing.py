"""Any count of colours for the ties of a web with two sides, or an odd ring."""

from tiehalves.answers import Ring, Shares
from tiehalves.errors import BadMany
from tiehalves.webs import check_web, far_end, is_whole, parts_of, reach_from


def shared(places, ties, many):
    """A Ring where there is one, or else a Shares."""
    check_web(places, ties)
    if not is_whole(many) or many < 1:
        raise BadMany("the count of colours is no whole number from 1 on")
    ring = odd_ring(places, ties)
    if ring:
        return Ring(ring)
    return Shares(share_out(places, ties, many))


def odd_ring(places, ties):
    """The ties of an odd ring, in turn, or an empty list where there is none."""
    for part in parts_of(places, ties):
        reached = reach_from(part[0], ties)
        for k, (low, high) in enumerate(ties):
            # The tree's own ties join places of unlike depths, so this one closes a ring with them.
            if low in reached and reached[low][0] % 2 == reached[high][0] % 2:
                return close_ring(k, ties, reached)
    return []


def close_ring(k, ties, reached):
    """The ring of tie k and the tree's ties between its two places."""
    one, other = ties[k]
    from_one = way_up(one, ties, reached)
    from_other = way_up(other, ties, reached)
    # What both ways have in common lies above the place where they meet.
    while from_one and from_other and from_one[-1] == from_other[-1]:
        from_one.pop()
        from_other.pop()
    return [k] + from_other + from_one[::-1]


def way_up(place, ties, reached):
    """The tree's ties from the place to the root, in turn."""
    way = []
    tie = reached[place][1]
    while tie is not None:
        way.append(tie)
        place = far_end(ties[tie], place)
        tie = reached[place][1]
    return way


def share_out(places, ties, many):
    """Colours of so many for a web with two sides, even at each place."""
    spots = spots_of(places, ties, many)
    rows = rows_of(spots)
    colours = [None] * len(ties)
    for k, (one, other) in enumerate(spots):
        colour = least_free(rows[one], colours)
        instead = least_free(rows[other], colours)
        # With two sides the chain never comes to the tie's first spot, so the colour stays free there.
        chain = chain_from(other, [colour, instead], spots, rows, colours)
        for tie in chain:
            colours[tie] = instead if colours[tie] == colour else colour
        colours[k] = colour
    return colours


def spots_of(places, ties, many):
    """The two spots of each tie, where each place is cut into spots of so many ties, the last of fewer."""
    # Where each spot has no colour twice, a full spot has each once, and so the place is even.
    counts = [0] * places
    spots = []
    for low, high in ties:
        spots.append(((low, counts[low] // many), (high, counts[high] // many)))
        counts[low] += 1
        counts[high] += 1
    return spots


def rows_of(spots):
    """For each spot the ties that have it."""
    rows = {}
    for k, pair in enumerate(spots):
        for spot in pair:
            rows.setdefault(spot, []).append(k)
    return rows


def least_free(row, colours):
    """The least colour that no tie of the row has."""
    taken = [colours[k] for k in row]
    colour = 0
    while colour in taken:
        colour += 1
    return colour


def chain_from(spot, two, spots, rows, colours):
    """The ties from the spot on that have the two colours in turn."""
    chain = []
    tie = tie_of(two[0], rows[spot], colours)
    while tie is not None:
        chain.append(tie)
        spot = far_end(spots[tie], spot)
        tie = tie_of(two[len(chain) % 2], rows[spot], colours)
    return chain


def tie_of(colour, row, colours):
    """The tie of the row that has the colour, or None where there is none."""
    for k in row:
        if colours[k] == colour:
            return k
    return None
