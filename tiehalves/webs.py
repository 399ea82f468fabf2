"""What a web is, which ties and parts it has, and when colours are even in it."""

from tiehalves.errors import BadPlaces, BadTies

MOST_PLACES = 40
MOST_TIES = 120


def is_whole(x):
    """Whether x is a whole number."""
    # Python counts True and False among its integers, the document does not.
    return isinstance(x, int) and not isinstance(x, bool)


def all_within(numbers, bound):
    """Whether all are whole numbers from 0 on, each less than the bound."""
    return all([is_whole(x) and 0 <= x < bound for x in numbers])


def is_tie(x, places):
    """Whether x is a pair of two unlike places, the lesser first."""
    if not isinstance(x, tuple) or len(x) != 2:
        return False
    low, high = x
    return all_within([low, high], places) and low < high


def check_web(places, ties):
    """Refuse what is no web: first its places, then its ties."""
    if not is_whole(places) or not 1 <= places <= MOST_PLACES:
        raise BadPlaces("the count of places is no whole number from 1 to 40")
    if not isinstance(ties, list):
        raise BadTies("the ties are no list")
    if len(ties) > MOST_TIES:
        raise BadTies("there are more than 120 ties")
    for k, tie in enumerate(ties):
        if not is_tie(tie, places):
            raise BadTies(f"tie {k} is no pair of two unlike places, the lesser first")


def ties_at(place, ties):
    """The counts of the ties that have the place, rising."""
    return [k for k, tie in enumerate(ties) if place in tie]


def far_end(tie, place):
    """The place of the tie that is not the given one."""
    low, high = tie
    return high if place == low else low


def reach_from(root, ties):
    """For each place of the root's part its depth in a tree of ties, and the tie towards the root."""
    reached = {root: (0, None)}
    waiting = [root]
    while waiting:
        place = waiting.pop()
        for k in ties_at(place, ties):
            far = far_end(ties[k], place)
            if far not in reached:
                reached[far] = (reached[place][0] + 1, k)
                waiting.append(far)
    return reached


def part_of(start, places, ties):
    """The places, rising, of the part that has the start."""
    reached = reach_from(start, ties)
    return [place for place in range(places) if place in reached]


def parts_of(places, ties):
    """The parts of the web, in the order of their least places."""
    parts = []
    found = {}
    for start in range(places):
        if start not in found:
            part = part_of(start, places, ties)
            parts.append(part)
            for place in part:
                found[place] = True
    return parts


def bars_two(part, ties):
    """Whether each place of the part has an even count of ties, and the part an odd one."""
    counts = [len(ties_at(place, ties)) for place in part]
    # Each tie has two places of its part, so the sum counts it twice.
    return all([n % 2 == 0 for n in counts]) and sum(counts) // 2 % 2 == 1


def even_at(place, ties, colours, many):
    """Whether each colour is at the place as often as any other, or one more or less."""
    times = {}
    for k in ties_at(place, ties):
        times[colours[k]] = times.get(colours[k], 0) + 1
    most = max(times.values(), default=0)
    # A count of colours may be far too great to go through them all.
    least = 0 if len(times) < many else min(times.values(), default=0)
    return most - least <= 1


def even_all_over(places, ties, colours, many):
    """Whether these are colours of so many for the web, even at each place."""
    if len(colours) != len(ties) or not all_within(colours, many):
        return False
    return all([even_at(place, ties, colours, many) for place in range(places)])


def goes_around(start, ring, ties):
    """Whether the ties, one after the other, lead from the start to it again, to no place twice."""
    seen = {}
    place = start
    for k in ring:
        if place not in ties[k]:
            return False
        place = far_end(ties[k], place)
        if place in seen:
            return False
        seen[place] = True
    return place == start


def is_odd_ring(ring, ties):
    """Whether these are counts of an odd many of ties that go around."""
    if len(ring) % 2 == 0 or not all_within(ring, len(ties)):
        return False
    return any([goes_around(start, ring, ties) for start in ties[ring[0]]])
