"""What is told of a web, each kind of it a class."""

from tiehalves.webs import all_within, bars_two, even_all_over, is_odd_ring, parts_of


class Answer:
    """Something told of a web."""


class Even(Answer):
    """Colours of two that are even at each place."""

    def __init__(self, colours):
        self.colours = list(colours)

    def shows(self, places, ties):
        """Whether the colours are so in this web."""
        return even_all_over(places, ties, self.colours, 2)


class Odd(Answer):
    """The places of a part in which two colours can't be even at each place."""

    def __init__(self, some):
        self.some = list(some)

    def shows(self, places, ties):
        """Whether the places are such a part of this web, rising."""
        # In Python True is equal to 1, so that likeness to a part is not enough.
        if not all_within(self.some, places):
            return False
        return self.some in parts_of(places, ties) and bars_two(self.some, ties)


class Shares(Answer):
    """Colours of so many that are even at each place."""

    def __init__(self, colours):
        self.colours = list(colours)

    def shows(self, places, ties, many):
        """Whether the colours are so in this web, with so many of them."""
        return even_all_over(places, ties, self.colours, many)


class Ring(Answer):
    """Counts of an odd many of ties that go around and come to no place twice."""

    def __init__(self, ring):
        self.ring = list(ring)

    def shows(self, places, ties, many):
        """Whether the ties are such a ring of this web, whatever the count of colours."""
        return is_odd_ring(self.ring, ties)
