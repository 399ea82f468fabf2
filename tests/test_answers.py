"""The answers: their fields, and what they show, also of answers made by hand."""

import inspect
import itertools
import random
import unittest

from tests import support
from tests.support import GREAT, ends, fixed_webs, random_webs, ring, small_webs
from tiehalves.answers import Answer, Even, Odd, Ring, Shares
from tiehalves.halving import halved
from tiehalves.sharing import shared

FIELDS = ((Even, "colours"), (Odd, "some"), (Shares, "colours"), (Ring, "ring"))


def changed(chance, numbers, bound):
    """The list with one number changed, left out, twice, turned about, moved on, one more, and others."""
    some = [list(numbers), numbers[::-1], numbers[1:] + numbers[:1], numbers[-1:] + numbers[:-1], [], numbers * 2]
    some += [numbers + [x] for x in (-1, 0, 1, bound - 1, bound)] + [[-1] + numbers, [0] + numbers]
    for spot in {0, len(numbers) // 2, len(numbers) - 1} if numbers else ():
        some.append(numbers[:spot] + numbers[spot + 1:])
        some.append(numbers[:spot + 1] + numbers[spot:])
        for x in (-1, 0, 1, 2, bound - 1, bound, bound + 7, -bound, GREAT, -GREAT, chance.randint(0, 120)):
            some.append(numbers[:spot] + [x] + numbers[spot + 1:])
            some.append(numbers[:spot] + [x] + numbers[spot:])
    if len(numbers) > 1:
        a, b = chance.sample(range(len(numbers)), 2)
        swapped = list(numbers)
        swapped[a], swapped[b] = swapped[b], swapped[a]
        some.append(swapped)
    return some


class Fields(unittest.TestCase):
    def test_all_stand_straight_under_one(self):
        self.assertEqual(Answer.__bases__, (object,))
        for kind, _ in FIELDS:
            self.assertEqual(kind.__bases__, (Answer,))

    def test_the_names_are_those_of_the_interface(self):
        for kind, field in FIELDS:
            self.assertEqual(list(inspect.signature(kind).parameters), [field])
            self.assertIn("shows", vars(kind))
            self.assertEqual(list(vars(kind(**{field: [1]}))), [field])
        for kind in (Even, Odd):
            self.assertEqual(list(inspect.signature(kind([]).shows).parameters), ["places", "ties"])
        for kind in (Shares, Ring):
            self.assertEqual(list(inspect.signature(kind([]).shows).parameters), ["places", "ties", "many"])

    def test_a_field_is_a_copy(self):
        for kind, field in FIELDS:
            for numbers in ([], [0, 1, 2], [-1, GREAT]):
                given = list(numbers)
                answer = kind(given)
                self.assertEqual(getattr(answer, field), numbers)
                self.assertIsInstance(getattr(answer, field), list)
                self.assertIsNot(getattr(answer, field), given)
                given.append(5)
                self.assertEqual(getattr(answer, field), numbers)
                getattr(answer, field).append(7)
                self.assertEqual(given, numbers + [5])

    def test_two_answers_of_one_list_share_nothing(self):
        for kind, field in FIELDS:
            given = [0, 1]
            one, other = kind(given), kind(given)
            getattr(one, field).clear()
            self.assertEqual(getattr(other, field), [0, 1])


class Shown(unittest.TestCase):
    """What is shown of any lists, each beside what the document says, told without the package."""

    def even(self, places, ties, colours):
        due = support.is_even(places, ties, colours, 2)
        self.assertIs(Even(colours).shows(places, ties), due, (places, ties, colours))

    def odd(self, places, ties, some):
        due = support.is_odd_part(places, ties, some)
        self.assertIs(Odd(some).shows(places, ties), due, (places, ties, some))

    def shares(self, places, ties, many, colours):
        due = support.is_even(places, ties, colours, many)
        self.assertIs(Shares(colours).shows(places, ties, many), due, (places, ties, many, colours))

    def ring(self, places, ties, many, some):
        due = support.is_odd_ring(ties, some)
        self.assertIs(Ring(some).shows(places, ties, many), due, (places, ties, many, some))

    def test_all_lists_of_colours_of_small_webs(self):
        for places, ties in small_webs(4, 3):
            for count in {0, len(ties) - 1, len(ties), len(ties) + 1} - {-1}:
                for colours in itertools.product((-1, 0, 1, 2), repeat=count):
                    self.even(places, ties, list(colours))
                    for many in (1, 2, 3, GREAT):
                        self.shares(places, ties, many, list(colours))

    def test_all_lists_of_right_colours_of_more_webs(self):
        for places, ties in small_webs(3, 6) + [(4, ring(4) + [(0, 2), (1, 3)]), (7, support.star(7))]:
            for colours in itertools.product(range(3), repeat=len(ties)):
                self.shares(places, ties, 3, list(colours))
                if max(colours, default=0) < 2:
                    self.even(places, ties, list(colours))

    def test_all_lists_of_places_of_small_webs(self):
        for places, ties in small_webs(4, 3) + [(4, ring(3) + ring(3)), (4, ring(3, 1) * 3)]:
            for count in range(5):
                for some in itertools.product(range(-1, places + 1), repeat=count):
                    self.odd(places, ties, list(some))

    def test_all_lists_of_ties_of_some_webs(self):
        webs = [(3, []), (2, [(0, 1)]), (2, [(0, 1)] * 3), (3, ring(3)), (3, ring(3) + [(0, 1)]), (4, support.full(4)),
                (5, ring(5)), (5, ring(5)[::2] + ring(5)[1::2]), (4, support.star(4)), (6, ring(3) + ring(3, 3)),
                (4, ring(4) + [(0, 2)]), (5, ends([0, 1, 2, 0, 3, 4, 0]))]
        for places, ties in webs:
            for count in range(6 if len(ties) < 6 else 4):
                for some in itertools.product(range(-1, len(ties) + 1), repeat=count):
                    self.ring(places, ties, 2, list(some))

    def test_changed_answers_of_many_webs(self):
        chance = random.Random(5)
        for places, ties in fixed_webs() + random_webs(51, 8):
            told = halved(places, ties)
            colours = told.colours if isinstance(told, Even) else [k % 2 for k in range(len(ties))]
            for numbers in changed(chance, colours, 2):
                self.even(places, ties, numbers)
            for part in support.parts(places, ties)[:3] + support.barred(places, ties):
                for numbers in changed(chance, part, places):
                    self.odd(places, ties, numbers)
            for many in (1, 2, 3, 50, GREAT):
                told = shared(places, ties, many)
                if isinstance(told, Ring):
                    for numbers in changed(chance, told.ring, len(ties)):
                        self.ring(places, ties, many, numbers)
                else:
                    for numbers in changed(chance, told.colours, many):
                        self.shares(places, ties, many, numbers)

    def test_answers_of_other_webs_and_counts(self):
        webs = [web for web in fixed_webs() + random_webs(52, 2) if len(web[1]) <= 20]
        for places, ties in webs:
            one, two = halved(places, ties), shared(places, ties, 3)
            for others, more in webs:
                if isinstance(one, Even):
                    self.even(others, more, one.colours)
                else:
                    self.odd(others, more, one.some)
                for many in (1, 2, 3, 4, 21, GREAT):
                    if isinstance(two, Shares):
                        self.shares(others, more, many, two.colours)
                    else:
                        self.ring(others, more, many, two.ring)

    def test_two_parts_as_one_and_a_part_of_a_part(self):
        ties = ring(3) + ring(3, 3) + ring(3, 6)
        for some in ([0, 1, 2], [3, 4, 5], [6, 7, 8]):
            self.assertIs(Odd(some).shows(10, ties), True)
        for some in (list(range(6)), list(range(9)), [0, 1], [2, 1, 0], [0, 1, 2, 2], [0, 1, 2, 9], [9], [], [0, 3, 6]):
            self.assertIs(Odd(some).shows(10, ties), False)

    def test_a_ring_turned_about_or_moved_on_is_one(self):
        for count in (3, 5, 7, 39):
            some = list(range(count))
            for many in (1, 2, GREAT):
                self.assertIs(Ring(some[2:] + some[:2]).shows(40, ring(count), many), True)
                self.assertIs(Ring(some[::-1]).shows(40, ring(count), many), True)
                self.assertIs(Ring(some[:-1]).shows(40, ring(count), many), False)
                self.assertIs(Ring(some + some[:1]).shows(40, ring(count), many), False)

    def test_an_even_ring_and_odd_walks_that_are_none(self):
        self.assertIs(Ring([0, 1, 2, 3]).shows(4, ring(4), 2), False)
        self.assertIs(Ring([0, 1]).shows(2, [(0, 1)] * 2, 2), False)
        self.assertIs(Ring([0]).shows(2, [(0, 1)], 2), False)
        self.assertIs(Ring([0, 1, 2]).shows(2, [(0, 1)] * 3, 2), False)
        self.assertIs(Ring([0, 1, 2]).shows(4, [(0, 1), (0, 2), (0, 3)], 2), False)
        self.assertIs(Ring([0, 1, 2]).shows(3, [(0, 1), (0, 1), (1, 2)], 2), False)
        # Seven ties that go around, but come to one place twice.
        ties = ends([0, 1, 2, 0, 3, 4, 5, 0])
        self.assertIs(Ring(list(range(7))).shows(6, ties, 2), False)
        self.assertIs(Ring([0, 1, 2]).shows(6, ties, 2), True)
        # Two rings of three and one of five, together an odd many, each tie once.
        ties = ring(3) + ring(3, 3) + ring(5, 6)
        self.assertIs(Ring(list(range(11))).shows(11, ties, 2), False)

    def test_numbers_from_the_end_of_the_ties_are_none(self):
        self.assertIs(Ring([-3, -2, -1]).shows(3, ring(3), 2), False)
        self.assertIs(Ring([0, 1, -1]).shows(3, ring(3), 2), False)
        self.assertIs(Ring([0, 1, 3]).shows(3, ring(3), 2), False)

    def test_more_colours_than_ties_at_a_place(self):
        ties = support.star(4)
        self.assertIs(Shares([0, 1, 2]).shows(4, ties, 4), True)
        self.assertIs(Shares([0, 3, 1]).shows(4, ties, 4), True)
        self.assertIs(Shares([0, 1, 0]).shows(4, ties, 4), False)
        self.assertIs(Shares([0, 1, 0]).shows(4, ties, 2), True)
        self.assertIs(Shares([0, 1, 0]).shows(4, ties, 3), False)
        self.assertIs(Shares([0, 0, 0]).shows(4, ties, 1), True)
        self.assertIs(Shares([0, 0, 0]).shows(4, ties, GREAT), False)
        self.assertIs(Shares([0, GREAT - 1, 5]).shows(4, ties, GREAT), True)
        self.assertIs(Shares([0, GREAT, 5]).shows(4, ties, GREAT), False)
        # A colour that is nowhere at the place counts too: 2, 2 and none are not even.
        self.assertIs(Shares([0, 0, 1, 1]).shows(5, support.star(5), 3), False)
        self.assertIs(Shares([0, 0, 1, 2]).shows(5, support.star(5), 3), True)

    def test_true_and_false_are_no_numbers(self):
        self.assertIs(Even([False, True]).shows(2, [(0, 1)] * 2), False)
        self.assertIs(Even([0, 1]).shows(2, [(0, 1)] * 2), True)
        self.assertIs(Shares([False, True]).shows(2, [(0, 1)] * 2, 2), False)
        self.assertIs(Odd([False, True, 2]).shows(3, ring(3)), False)
        self.assertIs(Ring([False, True, 2]).shows(3, ring(3), 2), False)

    def test_beyond_the_bounds_no_error_is_raised(self):
        for kind, _ in FIELDS:
            for numbers in ([], [0], [0, 1], [0, 1, 2], [-1], [50]):
                for places, ties in ((45, ring(45)), (2, [(0, 1)] * 125), (0, []), (2, [(0, 5)]), (3, ring(3, 2))):
                    for many in (() if kind in (Even, Odd) else ((2,), (0,), (-1,), (1,))) or ((),):
                        self.assertIsInstance(kind(numbers).shows(places, ties, *many), bool)


class Changed(unittest.TestCase):
    def test_the_field_as_it_stands_then_counts(self):
        ties = ring(4)
        answer = halved(4, ties)
        right = list(answer.colours)
        self.assertIs(answer.shows(4, ties), True)
        answer.colours[0] = 1 - answer.colours[0]
        self.assertIs(answer.shows(4, ties), False)
        answer.colours = right
        self.assertIs(answer.shows(4, ties), True)
        answer.colours.append(0)
        self.assertIs(answer.shows(4, ties), False)

    def test_so_with_each_class(self):
        for kind, field, right, wrong, web in (
                (Even, "colours", [0, 1, 0, 1], [0, 1, 1, 1], (4, ring(4))),
                (Odd, "some", [0, 1, 2], [0, 1], (4, ring(3))),
                (Shares, "colours", [0, 1, 0, 1], [0, 0, 1, 2], (4, ring(4), 2)),
                (Ring, "ring", [0, 1, 2], [0, 1, 1], (3, ring(3), 5))):
            answer = kind(wrong)
            self.assertIs(answer.shows(*web), False)
            setattr(answer, field, list(right))
            self.assertIs(answer.shows(*web), True)
            getattr(answer, field).pop()
            self.assertIs(answer.shows(*web), False)
            getattr(answer, field).append(right[-1])
            self.assertIs(answer.shows(*web), True)
            getattr(answer, field).clear()
            self.assertIs(answer.shows(*web), False)

    def test_showing_changes_nothing(self):
        for kind, field in FIELDS:
            for numbers in ([2, 1, 0], [0, 1, 2], [], [9, -1]):
                ties = ring(3)
                answer = kind(numbers)
                for _ in range(2):
                    answer.shows(3, ties, *(() if kind in (Even, Odd) else (2,)))
                self.assertEqual(getattr(answer, field), numbers)
                self.assertEqual(ties, ring(3))


if __name__ == "__main__":
    unittest.main()
