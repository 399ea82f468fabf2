"""Webs for the tests, and what the document says of them, told without the package."""

import itertools
import random
from collections import Counter

GREAT = 10 ** 30


def ends(row):
    """The ties of a row of places, each joined to the next one."""
    return [(min(a, b), max(a, b)) for a, b in zip(row, row[1:])]


def ring(count, first=0):
    places = list(range(first, first + count))
    return ends(places + [first])


def walk(count):
    return ends(list(range(count)))


def star(count):
    return [(0, k) for k in range(1, count)]


def full(count):
    return list(itertools.combinations(range(count), 2))


def two_sided(left, right):
    return [(a, left + b) for a in range(left) for b in range(right)]


def ten_places():
    """Five places in a ring, five in a star within it, each joined to its like."""
    outer = ring(5)
    inner = [(min(a, b), max(a, b)) for a, b in ((5 + k, 5 + (k + 2) % 5) for k in range(5))]
    return outer + inner + [(k, k + 5) for k in range(5)]


def fixed_webs():
    webs = [(1, []), (2, []), (40, []), (2, [(0, 1)]), (40, [(0, 39)]), (40, [(38, 39)])]
    webs += [(2, [(0, 1)] * n) for n in (2, 3, 4, 5, 119, 120)]
    webs += [(n, ring(n)) for n in (3, 4, 5, 6, 7, 8, 39, 40)]
    webs += [(n, walk(n)) for n in (2, 3, 4, 5, 39, 40)]
    webs += [(n, star(n)) for n in (3, 4, 5, 6, 39, 40)]
    webs += [(n, full(n)) for n in (3, 4, 5, 6, 7, 8, 15)]
    webs += [(a + b, two_sided(a, b)) for a, b in ((2, 2), (2, 3), (3, 3), (3, 5), (4, 4), (10, 12), (4, 30))]
    webs += [(10, ten_places())]
    webs += [(3, ring(3) * n) for n in (2, 3, 4, 39, 40)]
    webs += [(4, ring(4) * n) for n in (2, 3, 29, 30)]
    webs += [(3, [(0, 1), (0, 1), (1, 2)]), (3, ring(3) + [(0, 1), (0, 1)]), (3, ring(3) + [(0, 1)])]
    # Several parts: barred ones, others, and places with no tie.
    webs += [(7, ring(3) + ring(3, 4)), (40, ring(3, 1) + ring(5, 10) + ring(4, 20) + [(30, 31)])]
    webs += [(40, ring(4) + ring(3, 37)), (9, walk(4) + ring(5, 4)), (8, ring(4) + ring(4, 4))]
    # Two rings of three that share a place; and rings at a place with a tie more.
    webs += [(5, ends([0, 1, 2, 0, 3, 4, 0])), (6, ends([0, 1, 2, 0, 3, 4, 0, 5]))]
    webs += [(7, ends([0, 1, 2, 3, 0]) + ends([0, 4, 5, 6, 0])), (7, ends([0, 1, 2, 0]) + ends([2, 3, 4, 5, 2]))]
    # An odd ring far up a tree, and one that is closed by long ways round.
    webs += [(12, walk(10) + ends([9, 10, 11, 9])), (21, walk(21) + [(0, 20)]), (22, walk(22) + [(3, 19)])]
    return webs


def any_tie(chance, places):
    low, high = sorted(chance.sample(range(places), 2))
    return (low, high)


def random_web(chance, most_places=40, most_ties=120):
    places = chance.randint(2, most_places)
    return places, [any_tie(chance, places) for _ in range(chance.randint(0, most_ties))]


def random_two_sided(chance, most_places=40, most_ties=120):
    places = chance.randint(2, most_places)
    side = [chance.randint(0, 1) for _ in range(places)]
    side[0], side[-1] = 0, 1
    able = [(a, b) for a, b in itertools.combinations(range(places), 2) if side[a] != side[b]]
    return places, [chance.choice(able) for _ in range(chance.randint(0, most_ties))]


def random_rounds(chance):
    """A web of closed walks, so that each place has an even count of ties."""
    places = chance.randint(3, 40)
    ties = []
    for _ in range(chance.randint(1, 6)):
        some = chance.sample(range(places), chance.randint(2, min(places, 12)))
        ties += ends(some + some[:1])
    return places, ties


def random_webs(seed, rounds):
    chance = random.Random(seed)
    webs = []
    for _ in range(rounds):
        webs.append(random_web(chance))
        webs.append(random_web(chance, 8, 14))
        webs.append(random_two_sided(chance))
        webs.append(random_two_sided(chance, 8, 16))
        webs.append(random_rounds(chance))
        webs.append((40, [any_tie(chance, 40) for _ in range(120)]))
    return webs


def small_webs(most_places=4, most_ties=4):
    """Every web of so few places and ties, but for the turn of its ties."""
    webs = []
    for places in range(1, most_places + 1):
        able = list(itertools.combinations(range(places), 2))
        for count in range(most_ties + 1):
            for ties in itertools.combinations_with_replacement(able, count):
                webs.append((places, list(ties)))
    return webs


def spread_at(place, ties, colours, many):
    """How far the colour that is there most often is ahead of the one that is there least often."""
    times = Counter(colour for tie, colour in zip(ties, colours) if place in tie)
    counts = list(times.values())
    if len(times) < many:
        counts.append(0)
    return max(counts) - min(counts)


def plain(numbers):
    return isinstance(numbers, list) and all(x.__class__ is int for x in numbers)


def are_colours(ties, colours, many):
    return plain(colours) and len(colours) == len(ties) and all(0 <= x < many for x in colours)


def is_even(places, ties, colours, many):
    if not are_colours(ties, colours, many):
        return False
    return all(spread_at(place, ties, colours, many) <= 1 for place in range(places))


def parts(places, ties):
    name = list(range(places))
    for _ in range(places):
        for a, b in ties:
            name[a] = name[b] = min(name[a], name[b])
    return [[p for p in range(places) if name[p] == n] for n in sorted(set(name))]


def barred(places, ties):
    """The parts in which two colours can't be even."""
    found = []
    for part in parts(places, ties):
        counts = [sum(place in tie for tie in ties) for place in part]
        inside = sum(tie[0] in part for tie in ties)
        if inside % 2 == 1 and not any(n % 2 for n in counts):
            found.append(part)
    return found


def is_odd_part(places, ties, some):
    return plain(some) and some in barred(places, ties)


def has_two_sides(places, ties):
    """Whether no place is joined to itself by an odd many of steps."""
    reached = {(place, place, 0) for place in range(places)}
    fresh = list(reached)
    near = {place: [] for place in range(places)}
    for a, b in ties:
        near[a].append(b)
        near[b].append(a)
    while fresh:
        start, at, odd = fresh.pop()
        for step in near[at]:
            state = (start, step, 1 - odd)
            if state not in reached:
                reached.add(state)
                fresh.append(state)
    return not any((place, place, 1) in reached for place in range(places))


def is_odd_ring(ties, some):
    """Three ties or more, an odd many, two at each place that they have, each next to the one ahead."""
    if not plain(some) or len(some) < 3 or len(some) % 2 == 0:
        return False
    if not all(0 <= k < len(ties) for k in some) or len(set(some)) < len(some):
        return False
    times = Counter(place for k in some for place in ties[k])
    if set(times.values()) != {2}:
        return False
    return all(set(ties[a]) & set(ties[b]) for a, b in zip(some, some[1:] + some[:1]))
