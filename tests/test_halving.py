"""Two colours: halved and nearly."""

import inspect
import itertools
import time
import unittest

from tests import support
from tests.support import fixed_webs, random_webs, ring, small_webs
from tiehalves.answers import Even, Odd
from tiehalves.halving import halved, nearly


class Halved(unittest.TestCase):
    def right(self, places, ties):
        answer = halved(places, ties)
        barred = support.barred(places, ties)
        if barred:
            self.assertIs(answer.__class__, Odd, (places, ties))
            self.assertTrue(support.plain(answer.some))
            self.assertIn(answer.some, barred)
        else:
            self.assertIs(answer.__class__, Even, (places, ties))
            self.assertTrue(support.is_even(places, ties, answer.colours, 2), (places, ties, answer.colours))
        self.assertIs(answer.shows(places, ties), True)
        return answer

    def test_fixed_webs(self):
        for places, ties in fixed_webs():
            self.right(places, ties)

    def test_random_webs(self):
        kinds = [self.right(places, ties).__class__ for places, ties in random_webs(1, 120)]
        self.assertGreater(kinds.count(Odd), 20)
        self.assertGreater(kinds.count(Even), 300)

    def test_small_webs(self):
        for places, ties in small_webs(4, 6):
            self.right(places, ties)

    def test_odd_just_where_no_two_colours_do(self):
        for places, ties in small_webs(4, 5) + [(5, ring(5)), (6, support.ends([0, 1, 2, 0, 3, 4, 5, 0]))]:
            able = any(support.is_even(places, ties, list(colours), 2)
                       for colours in itertools.product((0, 1), repeat=len(ties)))
            self.assertIs(halved(places, ties).__class__, Even if able else Odd)

    def test_some_webs_by_name(self):
        self.assertEqual(halved(1, []).colours, [])
        self.assertEqual(halved(40, []).colours, [])
        self.assertEqual(halved(3, ring(3)).some, [0, 1, 2])
        self.assertEqual(halved(40, ring(3, 37)).some, [37, 38, 39])
        self.assertEqual(halved(9, ring(4) + ring(5, 4)).some, [4, 5, 6, 7, 8])
        self.assertEqual(sorted(halved(2, [(0, 1)] * 2).colours), [0, 1])
        self.assertEqual(sorted(halved(2, [(0, 1)] * 120).colours), [0] * 60 + [1] * 60)
        self.assertIn(sum(halved(2, [(0, 1)] * 119).colours), (59, 60))

    def test_the_places_of_an_odd_part_rise(self):
        ties = [(5, 9), (2, 9), (2, 7), (3, 7), (3, 5)]
        self.assertEqual(halved(12, ties).some, [2, 3, 5, 7, 9])


class Nearly(unittest.TestCase):
    def right(self, places, ties):
        colours = nearly(places, ties)
        self.assertTrue(support.are_colours(ties, colours, 2), (places, ties))
        spread = [support.spread_at(place, ties, colours, 2) for place in range(places)]
        for part in support.parts(places, ties):
            due = [0, 1] if part not in support.barred(places, ties) else [0, 2]
            apart = [place for place in part if spread[place] > 1]
            self.assertEqual(len(apart), due[1] // 2, (places, ties, colours))
            self.assertTrue(all(spread[place] == 2 for place in apart), (places, ties, colours))

    def test_fixed_webs(self):
        for places, ties in fixed_webs():
            self.right(places, ties)

    def test_random_webs(self):
        for places, ties in random_webs(2, 120):
            self.right(places, ties)

    def test_small_webs(self):
        for places, ties in small_webs(4, 6):
            self.right(places, ties)

    def test_a_place_with_four_ties_has_three_and_one(self):
        # A ring of three and one of four that share place 0; in the other web they share place 3.
        for ties in (support.ends([0, 1, 2, 0, 3, 4, 5, 0]), support.ends([3, 0, 1, 3, 2, 4, 5, 3])):
            self.right(6, ties)
            self.assertEqual(support.barred(6, ties), [[0, 1, 2, 3, 4, 5]])
            colours = nearly(6, ties)
            for place in range(6):
                here = [colour for tie, colour in zip(ties, colours) if place in tie]
                if support.spread_at(place, ties, colours, 2) > 1:
                    self.assertIn(sorted(here), ([0, 0], [1, 1], [0, 0, 0, 1], [0, 1, 1, 1]))

    def test_many_parts_that_bar_two_colours(self):
        ties = []
        for first in range(0, 39, 3):
            ties += ring(3, first)
        self.assertEqual(len(support.barred(40, ties)), 13)
        self.right(40, ties)
        self.right(40, ties * 3)
        self.right(40, ties * 2)

    def test_without_a_barred_part_it_is_even(self):
        for places, ties in random_webs(3, 30):
            if not support.barred(places, ties):
                self.assertTrue(support.is_even(places, ties, nearly(places, ties), 2))

    def test_a_list_is_told(self):
        self.assertEqual(nearly(1, []), [])
        self.assertEqual(nearly(40, []), [])
        self.assertIn(sum(nearly(3, ring(3))), (1, 2))


class Kept(unittest.TestCase):
    def test_the_names_of_the_interface(self):
        for called in (halved, nearly):
            self.assertEqual(list(inspect.signature(called).parameters), ["places", "ties"])
            called(places=3, ties=ring(3))

    def test_what_is_handed_in_stays_as_it_was(self):
        for places, ties in fixed_webs() + random_webs(4, 5):
            given = list(ties)
            answer = halved(places, given)
            nearly(places, given)
            answer.shows(places, given)
            self.assertEqual(given, ties)

    def test_what_is_told_is_the_askers_own(self):
        for places, ties in ((4, ring(4)), (3, ring(3)), (1, [])):
            given = list(ties)
            one, near = halved(places, given), nearly(places, given)
            field = "colours" if isinstance(one, Even) else "some"
            was, was_near = list(getattr(one, field)), list(near)
            getattr(one, field).append(9)
            near.append(9)
            self.assertEqual(given, ties)
            again = halved(places, given)
            self.assertEqual(getattr(again, field), was)
            self.assertEqual(nearly(places, given), was_near)
            self.assertIsNot(getattr(again, field), getattr(one, field))
            given.append((0, 1))
            given.clear()
            self.assertEqual(getattr(again, field), was)

    def test_an_answer_keeps_its_web_no_longer_than_it_is_asked(self):
        ties = ring(4)
        answer = halved(4, ties)
        ties[:] = ring(3)
        self.assertIs(answer.shows(3, ties), False)
        self.assertIs(answer.shows(4, ring(4)), True)

    def test_the_largest_are_answered_promptly(self):
        webs = [(40, support.ring(40) * 3), (2, [(0, 1)] * 120), (40, [(k, 39) for k in range(39)] * 3)]
        webs += [web for web in random_webs(5, 20) if len(web[1]) == 120]
        start = time.monotonic()
        for places, ties in webs:
            halved(places, ties).shows(places, ties)
            nearly(places, ties)
        self.assertLess(time.monotonic() - start, len(webs))


if __name__ == "__main__":
    unittest.main()
