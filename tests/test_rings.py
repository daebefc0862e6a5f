"""Point 5: rings, periods, and moves done many times."""

import unittest

from riffles.moves import Cut, Deal, Riffle, Turn, Under, Weave
from riffles.rings import period, repeated, rings
from tests.samples import fitting, mingled, promptly, told

MOST_TIMES = 10 ** 18


def doings(move, order, times):
    """The order behind so many times, one doing after the other."""
    for doing in range(times):
        order = move.done(order)
    return order


def doublings(move, cards, times):
    """The sorted pack behind so many times, by doing twice as many at each step."""
    after = list(range(cards))
    step = move.done(after)
    while times:
        if times & 1:
            after = [after[place] for place in step]
        step = [step[place] for place in step]
        times >>= 1
    return after


def prime_parts(number):
    parts = [part for part in range(2, number + 1) if number % part == 0]
    return [part for part in parts if not any(part % lesser == 0 for lesser in range(2, part))]


class Rings(unittest.TestCase):
    def test_by_hand(self):
        for move, many, told_rings in [
            (Turn(), 1, [[0]]),
            (Cut(0), 3, [[0], [1], [2]]),
            (Cut(3), 3, [[0], [1], [2]]),
            # The top card goes to the bottom, and the others each a place up.
            (Cut(1), 3, [[0, 2, 1]]),
            (Cut(1), 5, [[0, 4, 3, 2, 1]]),
            (Cut(2), 4, [[0, 2], [1, 3]]),
            (Cut(2), 5, [[0, 3, 1, 4, 2]]),
            (Turn(), 4, [[0, 3], [1, 2]]),
            (Turn(), 5, [[0, 4], [1, 3], [2]]),
            # 0 1 2 3 4 become 3 1 4 2 0.
            (Deal(2), 5, [[0, 4, 2, 3], [1]]),
            (Deal(60), 3, [[0, 2], [1]]),
            # 0 1 2 become 1 2 0; 0 1 2 3 become 3 1 2 0; 0 1 2 3 4 become 1 3 4 2 0.
            (Under(), 3, [[0, 2, 1]]),
            (Under(), 4, [[0, 3], [1], [2]]),
            (Under(), 5, [[0, 4, 2, 3, 1]]),
            # 0 1 2 3 4 5 become 0 3 1 4 2 5, or 3 0 4 1 5 2.
            (Weave(0), 6, [[0], [1, 2, 4, 3], [5]]),
            (Weave(1), 6, [[0, 1, 3], [2, 5, 4]]),
            (Weave(1), 2, [[0, 1]]),
            # 0 1 2 3 become 0 2 3 1; 0 1 2 3 4 become 3 4 0 1 2.
            (Riffle("abba"), 4, [[0], [1, 3, 2]]),
            (Riffle("bbaaa"), 5, [[0, 2, 4, 1, 3]]),
            (Riffle("aaa"), 3, [[0], [1], [2]]),
            (Riffle("bbb"), 3, [[0], [1], [2]]),
        ]:
            with self.subTest(move=told(move), many=many):
                self.assertEqual(rings(move, many), told_rings)

    def test_each_ring_follows_its_cards(self):
        for many in range(1, 61):
            for move in fitting(many):
                after = move.done(list(range(many)))
                found = rings(move, many)
                for ring in found:
                    self.assertEqual(ring[0], min(ring), told(move))
                    for place, goes_to in zip(ring, ring[1:] + ring[:1]):
                        self.assertEqual(after[goes_to], place, told(move))
                leasts = [ring[0] for ring in found]
                self.assertEqual(leasts, sorted(leasts), told(move))
                self.assertEqual(sorted(sum(found, [])), list(range(many)), told(move))

    def test_what_is_told_is_new(self):
        move = Cut(2)
        first = rings(move, 4)
        first[0].append(9)
        first.pop()
        self.assertEqual(rings(move, 4), [[0, 2], [1, 3]])
        self.assertEqual(period(move, 4), 2)


class Period(unittest.TestCase):
    def test_by_hand(self):
        for move, many, times in [
            (Turn(), 1, 1), (Turn(), 2, 2), (Turn(), 60, 2), (Cut(0), 60, 1), (Cut(60), 60, 1), (Cut(1), 60, 60),
            (Cut(45), 60, 4), (Weave(0), 2, 1), (Weave(1), 2, 2), (Weave(0), 52, 8), (Weave(1), 52, 52),
            (Deal(1), 7, 2), (Deal(2), 5, 4), (Under(), 5, 5), (Riffle("abba"), 4, 3), (Riffle("a" * 60), 60, 1),
        ]:
            with self.subTest(move=told(move), many=many):
                self.assertEqual(period(move, many), times)

    def test_rings_of_several_lengths(self):
        # 0 1 2 3 4 become 3 0 4 1 2: a ring of three places and one of two.
        self.assertEqual(rings(Riffle("babaa"), 5), [[0, 1, 3], [2, 4]])
        self.assertEqual(period(Riffle("babaa"), 5), 6)
        # Four and six have a part in common, so the period is less than their product.
        self.assertEqual([len(ring) for ring in rings(Riffle("abbababbaba"), 11)], [1, 6, 4])
        self.assertEqual(period(Riffle("abbababbaba"), 11), 12)

    def test_least_number_of_times_at_small_packs(self):
        for many in range(1, 13):
            for move in fitting(many):
                after = move.done(list(range(many)))
                times = 1
                while after != list(range(many)):
                    after = move.done(after)
                    times += 1
                self.assertEqual(period(move, many), times, told(move))

    def test_least_number_of_times_at_great_packs(self):
        # A lesser number that serves would divide the period, and so serve with some prime part left out.
        for many in (13, 24, 37, 52, 59, 60):
            for move in fitting(many):
                times = period(move, many)
                self.assertEqual(doublings(move, many, times), list(range(many)), told(move))
                for part in prime_parts(times):
                    self.assertNotEqual(doublings(move, many, times // part), list(range(many)), told(move))


class Repeated(unittest.TestCase):
    def test_by_hand(self):
        self.assertEqual(repeated(Cut(1), [2, 0, 1], 0), [2, 0, 1])
        self.assertEqual(repeated(Cut(1), [2, 0, 1], 1), [0, 1, 2])
        self.assertEqual(repeated(Cut(1), [2, 0, 1], 2), [1, 2, 0])
        self.assertEqual(repeated(Cut(1), [2, 0, 1], 3), [2, 0, 1])
        # 10 ** 18 leaves 1 by 3, and 0 by 2.
        self.assertEqual(repeated(Cut(1), [2, 0, 1], MOST_TIMES), [0, 1, 2])
        self.assertEqual(repeated(Turn(), [2, 0, 1], MOST_TIMES), [2, 0, 1])
        self.assertEqual(repeated(Turn(), [2, 0, 1], MOST_TIMES - 1), [1, 0, 2])
        self.assertEqual(repeated(Turn(), [0], MOST_TIMES), [0])

    def test_as_done_by_done(self):
        for many in (1, 2, 3, 4, 5, 6, 7, 13, 60):
            for move in fitting(many):
                order = mingled(many)
                for times in range(6):
                    self.assertEqual(repeated(move, order, times), doings(move, order, times), told(move))

    def test_at_the_period_and_beside_it(self):
        for many in (1, 2, 5, 6, 24, 59, 60):
            for move in fitting(many):
                order = mingled(many)
                times = period(move, many)
                self.assertEqual(repeated(move, order, times), order, told(move))
                self.assertEqual(repeated(move, order, times + 1), move.done(order), told(move))
                self.assertEqual(repeated(move, order, times - 1), move.undone(order), told(move))

    def test_most_times_promptly(self):
        with promptly():
            for many in (1, 2, 59, 60):
                order = mingled(many)
                for move in fitting(many):
                    for times in (MOST_TIMES, MOST_TIMES - 1):
                        places = doublings(move, many, times)
                        after = [order[place] for place in places]
                        self.assertEqual(repeated(move, order, times), after, told(move))

    def test_nothing_changed_or_kept(self):
        for times in (0, 1, 7, MOST_TIMES):
            for move in fitting(6):
                order = mingled(6)
                after = repeated(move, order, times)
                kept = list(after)
                self.assertEqual(order, mingled(6), told(move))
                after.append(9)
                self.assertEqual(order, mingled(6), told(move))
                self.assertEqual(repeated(move, order, times), kept, told(move))

    def test_arguments_are_taken_by_their_names(self):
        self.assertEqual(repeated(move=Cut(1), order=[0, 1, 2], times=2), [2, 0, 1])
        self.assertEqual(rings(move=Turn(), many=2), [[0, 1]])
        self.assertEqual(period(move=Turn(), many=2), 2)


if __name__ == "__main__":
    unittest.main()
