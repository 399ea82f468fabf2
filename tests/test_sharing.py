"""Any count of colours: shared."""

import inspect
import time
import unittest

from tests import support
from tests.support import GREAT, fixed_webs, random_webs, ring, small_webs
from tiehalves.answers import Ring, Shares
from tiehalves.sharing import shared

COUNTS = (1, 2, 3, 4, 5, 7, 11, 39, 40, 60, 119, 120, 121, 500, GREAT, GREAT + 1)


class Shared(unittest.TestCase):
    def right(self, places, ties, many):
        answer = shared(places, ties, many)
        if support.has_two_sides(places, ties):
            self.assertIs(answer.__class__, Shares, (places, ties, many))
            self.assertTrue(support.is_even(places, ties, answer.colours, many), (places, ties, many))
        else:
            self.assertIs(answer.__class__, Ring, (places, ties, many))
            self.assertTrue(support.is_odd_ring(ties, answer.ring), (places, ties, many))
        self.assertIs(answer.shows(places, ties, many), True)
        return answer

    def test_fixed_webs(self):
        for places, ties in fixed_webs():
            for many in COUNTS:
                self.right(places, ties, many)

    def test_random_webs(self):
        kinds = []
        for at, (places, ties) in enumerate(random_webs(11, 60)):
            for many in (1, 2, 3, COUNTS[at % len(COUNTS)], GREAT):
                kinds.append(self.right(places, ties, many).__class__)
        self.assertGreater(kinds.count(Shares), 300)
        self.assertGreater(kinds.count(Ring), 300)

    def test_small_webs(self):
        for places, ties in small_webs(4, 6):
            for many in (1, 2, 3, 4, GREAT):
                self.right(places, ties, many)

    def test_two_sides_with_each_count(self):
        places, ties = 10, support.two_sided(4, 6)
        for many in range(1, 30):
            self.right(places, ties, many)

    def test_a_ring_is_told_also_where_colours_could_be_even(self):
        # One colour is even in any web, and three are in this one.
        for many in (1, 2, 3, GREAT):
            answer = shared(3, ring(3), many)
            self.assertIs(answer.__class__, Ring)
            self.assertEqual(sorted(answer.ring), [0, 1, 2])

    def test_a_ring_in_any_part_and_of_any_ties(self):
        self.assertEqual(sorted(shared(40, ring(4) + ring(3, 37), 2).ring), [4, 5, 6])
        self.assertEqual(sorted(shared(40, [(0, 1)] * 3 + ring(39, 1), 2).ring), list(range(3, 42)))
        told = shared(3, [(0, 1), (0, 1), (1, 2), (1, 2), (0, 2)], 2).ring
        self.assertEqual(len(told), 3)
        self.assertIn(4, told)

    def test_some_shares_by_name(self):
        self.assertEqual(shared(1, [], 1).colours, [])
        self.assertEqual(shared(40, [], GREAT).colours, [])
        self.assertEqual(shared(4, ring(4), 1).colours, [0, 0, 0, 0])
        times = [shared(2, [(0, 1)] * 7, 3).colours.count(k) for k in range(3)]
        self.assertEqual(sorted(times), [2, 2, 3])
        self.assertEqual(len(set(shared(2, [(0, 1)] * 120, GREAT).colours)), 120)
        self.assertEqual(sorted(shared(2, [(0, 1)] * 120, 120).colours), list(range(120)))


class Kept(unittest.TestCase):
    def test_the_names_of_the_interface(self):
        self.assertEqual(list(inspect.signature(shared).parameters), ["places", "ties", "many"])
        shared(places=3, ties=ring(3), many=2)

    def test_what_is_handed_in_stays_as_it_was(self):
        for places, ties in fixed_webs() + random_webs(12, 5):
            for many in (1, 3, GREAT):
                given = list(ties)
                shared(places, given, many).shows(places, given, many)
                self.assertEqual(given, ties)

    def test_what_is_told_is_the_askers_own(self):
        for places, ties in ((4, ring(4)), (3, ring(3)), (1, [])):
            given = list(ties)
            one = shared(places, given, 2)
            field = "colours" if isinstance(one, Shares) else "ring"
            was = list(getattr(one, field))
            getattr(one, field).append(9)
            self.assertEqual(given, ties)
            again = shared(places, given, 2)
            self.assertEqual(getattr(again, field), was)
            given.clear()
            self.assertEqual(getattr(again, field), was)

    def test_an_answer_keeps_no_web(self):
        ties = ring(4)
        answer = shared(4, ties, 2)
        ties[:] = ring(3)
        self.assertIs(answer.shows(3, ties, 2), False)
        self.assertIs(answer.shows(4, ring(4), 2), True)

    def test_the_largest_are_answered_promptly(self):
        webs = [(40, ring(40) * 3), (2, [(0, 1)] * 120), (40, [(k, 39) for k in range(39)] * 3)]
        webs += [(22, support.two_sided(10, 12)), (39, ring(39) * 3), (34, support.two_sided(4, 30))]
        webs += [web for web in random_webs(13, 20) if len(web[1]) == 120]
        start = time.monotonic()
        for places, ties in webs:
            for many in (1, 2, 7, 120, GREAT, 10 ** 800):
                shared(places, ties, many).shows(places, ties, many)
        self.assertLess(time.monotonic() - start, 3 * len(webs))


if __name__ == "__main__":
    unittest.main()
