"""The refusals: of which class, of what, and which goes first."""

import unittest

from tests.support import ring
from tiehalves.errors import BadMany, BadPlaces, BadTies, TieError
from tiehalves.halving import halved, nearly
from tiehalves.sharing import shared

NO_NUMBERS = [None, True, False, "3", "", b"3", [], [3], (), (3,), {}, {3: 3}, {3}, 3j, object(), int, len]
NO_PLACES = NO_NUMBERS + [0, -1, -40, 41, 42, 10 ** 30, -10 ** 30]
NO_LISTS = [None, True, False, 0, 1, "", "01", b"", (), ((0, 1),), {}, {(0, 1): 1}, {(0, 1)}, 3j, object(),
            range(0), iter([]), zip([0], [1]), list]
# Of a web with 4 places.
NO_TIES = [None, True, 0, 1, "01", b"01", [0, 1], {0: 1}, {0, 1}, (), (0,), (0, 1, 2), ((0, 1),), ((0, 1), (1, 2)),
           (1, 0), (3, 2), (0, 0), (3, 3), (-1, 0), (-2, -1), (0, 4), (3, 4), (4, 5), (0, 10 ** 30), (-10 ** 30, 0),
           (False, 1), (0, True), (False, True), (None, 1), (0, None), ("0", 1), (0, "1"), ("0", "1"), (0, b"1"),
           ([0], [1]), (0, [1]), (0, (1,)), ({}, 1), (0, 1j), range(2), iter((0, 1)), object()]
NO_MANY = NO_NUMBERS + [0, -1, -2, -10 ** 30]


def asked(places, ties):
    """The three functions, each asked with this web."""
    return [lambda: halved(places, ties), lambda: nearly(places, ties), lambda: shared(places, ties, 2)]


class Classes(unittest.TestCase):
    def test_all_stand_straight_under_one(self):
        self.assertEqual(TieError.__bases__, (ValueError,))
        for kind in (BadPlaces, BadTies, BadMany):
            self.assertEqual(kind.__bases__, (TieError,))


class Refusals(unittest.TestCase):
    def refused(self, kind, call):
        with self.assertRaises(ValueError) as caught:
            call()
        self.assertIs(caught.exception.__class__, kind)

    def test_places(self):
        for places in NO_PLACES:
            for call in asked(places, []):
                with self.subTest(places=places):
                    self.refused(BadPlaces, call)

    def test_ties_that_are_no_list(self):
        for ties in NO_LISTS:
            for call in asked(4, ties):
                with self.subTest(ties=ties):
                    self.refused(BadTies, call)

    def test_a_bad_tie_at_each_spot(self):
        good = ring(4) * 3
        for tie in NO_TIES:
            for spot in (0, 5, len(good)):
                for call in asked(4, good[:spot] + [tie] + good[spot:]):
                    with self.subTest(tie=tie, spot=spot):
                        self.refused(BadTies, call)

    def test_a_bad_tie_alone(self):
        for tie in NO_TIES:
            for call in asked(4, [tie]):
                with self.subTest(tie=tie):
                    self.refused(BadTies, call)

    def test_no_tie_fits_one_place(self):
        for tie in [(0, 0), (0, 1)]:
            for call in asked(1, [tie]):
                self.refused(BadTies, call)

    def test_a_bad_tie_last_of_the_most(self):
        for call in asked(4, [(0, 1)] * 119 + [(1, 0)]):
            self.refused(BadTies, call)

    def test_too_many_ties(self):
        for count in (121, 122, 500):
            for call in asked(4, [(0, 1)] * count):
                self.refused(BadTies, call)

    def test_counts_of_colours(self):
        for many in NO_MANY:
            for ties in ([], [(0, 1)], ring(3)):
                with self.subTest(many=many, ties=ties):
                    self.refused(BadMany, lambda: shared(4, ties, many))

    def test_the_bounds_are_taken(self):
        for places, ties in ((1, []), (40, []), (40, [(38, 39)] * 120), (2, [(0, 1)] * 120)):
            halved(places, ties)
            nearly(places, ties)
            for many in (1, 2, 10 ** 30):
                shared(places, ties, many)

    def test_places_go_first(self):
        for places in NO_PLACES:
            for ties in (None, [None], [(1, 0)], [(0, 1)] * 121):
                for call in asked(places, ties) + [lambda: shared(places, ties, 0)]:
                    self.refused(BadPlaces, call)

    def test_places_go_before_a_bad_count_of_colours_alone(self):
        for places in NO_PLACES:
            self.refused(BadPlaces, lambda: shared(places, [], 0))

    def test_ties_go_before_a_bad_count_of_colours(self):
        for ties in (None, (), [None], [(0, 1), (1, 0)], [(0, 4)], [(0, 1)] * 121):
            for many in NO_MANY:
                self.refused(BadTies, lambda: shared(4, ties, many))

    def test_a_very_long_number_is_refused_as_any_other(self):
        great = 10 ** 6000
        for places in (great, -great):
            for call in asked(places, []):
                self.refused(BadPlaces, call)
        for tie in ((0, great), (-great, 0)):
            for call in asked(4, [tie]):
                self.refused(BadTies, call)
        self.refused(BadMany, lambda: shared(4, [], -great))


if __name__ == "__main__":
    unittest.main()
