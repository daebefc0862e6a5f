"""Points 1 and 3, and the interface's brackets: what is refused, and which refusal comes first."""

import unittest

from riffles.errors import BadMove, BadNumber, BadOrder, BadText
from riffles.moves import Cut, Deal, Move, Riffle, Turn, Under, Weave, done_all
from riffles.rings import period, repeated, rings
from riffles.rows import orders_with, riffles_to, rows, ways
from riffles.texts import read, written
from riffles.tricks import brought, mixed
from tests.samples import (OF_WRONG_KIND, WRONG_MOVE_LISTS, WRONG_MOVES, WRONG_ORDERS, endless, fitting, mingled, misfits,
                           told, wrong_numbers)

MOST_TIMES = 10 ** 18

# One move of each sort, for packs of four cards.
MOVES_OF_FOUR = [Cut(1), Turn(), Deal(2), Under(), Weave(0), Weave(1), Riffle("abba")]


class Refusals(unittest.TestCase):
    def refused(self, error, door, *given):
        """Refused with just this class, not with one above or beside it."""
        try:
            answer = door(*given)
        except Exception as raised:
            self.assertIs(type(raised), error, named(door, given))
        else:
            self.fail(f"{named(door, given)} answered {answer!r}")


def named(door, given):
    values = [value if not isinstance(value, int) or abs(value) < 10 ** 40 else "a great number" for value in given]
    return f"{door.__name__} {values!r}"


class Orders(Refusals):
    def test_one_and_sixty_cards_are_taken(self):
        for cards in (1, 60):
            for move in fitting(cards):
                order = mingled(cards)
                self.assertEqual(sorted(move.done(order)), list(range(cards)), told(move))
                self.assertEqual(sorted(move.undone(order)), list(range(cards)), told(move))
                self.assertEqual(sorted(done_all([move], order)), list(range(cards)), told(move))
                self.assertEqual(sorted(repeated(move, order, 3)), list(range(cards)), told(move))

    def test_what_is_no_order_is_refused_at_each_door(self):
        for wrong in WRONG_ORDERS:
            for move in MOVES_OF_FOUR:
                self.refused(BadOrder, move.done, wrong)
                self.refused(BadOrder, move.undone, wrong)
                self.refused(BadOrder, done_all, [move], wrong)
                self.refused(BadOrder, repeated, move, wrong, 1)
            self.refused(BadOrder, done_all, [], wrong)

            for door in (rows, riffles_to, mixed):
                self.refused(BadOrder, door, wrong)
            self.refused(BadOrder, ways, wrong, 1)

    def test_refused_even_where_no_time_is_asked(self):
        for wrong in WRONG_ORDERS:
            self.refused(BadOrder, repeated, Turn(), wrong, 0)
            self.refused(BadOrder, ways, wrong, 0)


class WhatTellsNoMove(Refusals):
    def test_cut(self):
        for wrong in wrong_numbers(0, 60):
            self.refused(BadMove, Cut, wrong)
        for many in range(61):
            self.assertIsInstance(Cut(many), Move)

    def test_deal(self):
        for wrong in wrong_numbers(1, 60):
            self.refused(BadMove, Deal, wrong)
        for piles in range(1, 61):
            self.assertIsInstance(Deal(piles), Move)

    def test_weave(self):
        for wrong in wrong_numbers(0, 1):
            self.refused(BadMove, Weave, wrong)
        for first in (0, 1):
            self.assertIsInstance(Weave(first), Move)

    def test_riffle_of_no_text(self):
        for wrong in [None, True, False, 0, 1, 10 ** 30, 1.5, b"ab", bytearray(b"ab"), (), ("a", "b"), [], ["a", "b"],
                      [["a"]], {}, {"a": "b"}, {"a"}, object(), str, len, Turn(), Riffle("ab"), endless()]:
            self.refused(BadMove, Riffle, wrong)

    def test_riffle_of_a_wrong_text(self):
        for wrong in ["", " ", "a" * 61, "b" * 61, "ab" * 1000, "c", "abc", "cab", "aBa", "AB", "A", "B", "0", "01", "a b",
                      " ab", "ab ", "ab\n", "\nab", "a\0b", "a;b", "\u0430b", "\uff41", "a\u0301b", "riffle ab"]:
            self.refused(BadMove, Riffle, wrong)

    def test_riffle_of_one_to_sixty_signs(self):
        for signs in range(1, 61):
            for sign in "ab":
                self.assertIsInstance(Riffle(sign * signs), Move)

    def test_a_bare_move_is_not_made(self):
        self.refused(BadMove, Move)

    def test_what_is_no_move(self):
        for wrong in WRONG_MOVES:
            self.refused(BadMove, rings, wrong, 4)
            self.refused(BadMove, period, wrong, 4)
            self.refused(BadMove, repeated, wrong, [0, 1, 2, 3], 1)
            self.refused(BadMove, repeated, wrong, [0, 1, 2, 3], 0)

    def test_what_is_no_list_of_moves(self):
        for wrong in WRONG_MOVE_LISTS:
            self.refused(BadMove, done_all, wrong, [0, 1, 2, 3])
            self.refused(BadMove, written, wrong)

    def test_a_bare_move_made_all_the_same(self):
        bare = Move.__new__(Move)
        self.refused(BadMove, bare.done, [0, 1])
        self.refused(BadMove, bare.undone, [0, 1])
        self.refused(BadMove, rings, bare, 2)
        self.refused(BadMove, done_all, [bare], [0, 1])
        self.refused(BadMove, written, [bare])
        self.refused(BadMove, written, [Turn(), bare])


class WhatIsNoText(Refusals):
    def test_of_another_kind(self):
        for wrong in [value for value in OF_WRONG_KIND if not isinstance(value, str)]:
            self.refused(BadText, read, wrong)

    def test_by_name(self):
        for wrong in (0, 1, -1, 10 ** 30, 10 ** 5000, [], ["turn"], ("turn",), {"turn": 1}, {"turn"}, b"turn", b"",
                      bytearray(b"turn"), [["turn"]], Turn(), [Turn()], endless(), iter("turn"), str):
            self.refused(BadText, read, wrong)


class Misfits(Refusals):
    def test_at_each_door(self):
        for move, cards in misfits():
            order = mingled(cards)
            self.refused(BadMove, move.done, order)
            self.refused(BadMove, move.undone, order)
            self.refused(BadMove, done_all, [move], order)
            self.refused(BadMove, rings, move, cards)
            self.refused(BadMove, period, move, cards)
            for times in (0, 1, MOST_TIMES):
                self.refused(BadMove, repeated, move, order, times)

    def test_anywhere_in_a_list(self):
        for moves in ([Cut(4), Turn()], [Turn(), Cut(4)], [Turn(), Weave(0), Turn()], [Riffle("ab"), Riffle("aba")]):
            self.refused(BadMove, done_all, moves, [0, 1, 2])

    def test_the_order_stands_as_it_was(self):
        order = [2, 0, 1]
        self.refused(BadMove, done_all, [Turn(), Cut(4)], order)
        self.assertEqual(order, [2, 0, 1])

    def test_a_cut_of_all_cards_fits(self):
        for cards in range(1, 61):
            self.assertEqual(Cut(cards).done(mingled(cards)), mingled(cards))


class Numbers(Refusals):
    def test_what_is_no_count_of_cards(self):
        for wrong in wrong_numbers(1, 60):
            for move in MOVES_OF_FOUR:
                self.refused(BadNumber, rings, move, wrong)
                self.refused(BadNumber, period, move, wrong)

    def test_what_is_no_count_of_times(self):
        for wrong in wrong_numbers(0, MOST_TIMES):
            for move in MOVES_OF_FOUR:
                self.refused(BadNumber, repeated, move, [0, 1, 2, 3], wrong)

    def test_what_is_no_count_of_riffles(self):
        for wrong in wrong_numbers(0, 30):
            for order in ([0], [0, 1, 2], [2, 1, 0], mingled(60)):
                self.refused(BadNumber, ways, order, wrong)
        for many in range(31):
            self.assertGreater(ways([0], many), 0)

    def test_what_is_no_count_of_cards_or_of_rows(self):
        for wrong in wrong_numbers(1, 60):
            for many in (0, 1, 60):
                self.refused(BadNumber, orders_with, wrong, many)
        for wrong in wrong_numbers(0, 60):
            for cards in (1, 4, 60):
                self.refused(BadNumber, orders_with, cards, wrong)
        for cards in range(1, 61):
            self.assertEqual(orders_with(cards, 1), 1)
        for many in range(61):
            self.assertGreaterEqual(orders_with(60, many), 0)

    def test_what_is_no_even_count_of_cards(self):
        for wrong in wrong_numbers(2, 60) + list(range(-3, 65, 2)) + [-2, 0, 62]:
            for place in (0, 1):
                self.refused(BadNumber, brought, wrong, place)
        for cards in range(2, 61, 2):
            self.assertIsInstance(brought(cards, cards - 1), list)

    def test_what_is_no_place_of_the_pack(self):
        for cards in range(2, 61, 2):
            for wrong in wrong_numbers(0, cards - 1):
                self.refused(BadNumber, brought, cards, wrong)

    def test_the_edges_by_name(self):
        for wrong in (-1, MOST_TIMES + 1, True, False):
            self.refused(BadNumber, repeated, Cut(1), [0, 1, 2], wrong)
        for wrong in (-1, 31, True, False):
            self.refused(BadNumber, ways, [0, 1, 2], wrong)
        for cards, many in ((0, 1), (61, 1), (True, 1), (False, 1), (1, -1), (1, 61), (1, True), (1, False), (0, 61)):
            self.refused(BadNumber, orders_with, cards, many)
        for cards, place in ((0, 0), (1, 0), (3, 0), (59, 0), (61, 0), (62, 0), (True, 0), (2, 2), (2, -1), (60, 60),
                             (2, True), (2, False), (3, 3), (0, -1)):
            self.refused(BadNumber, brought, cards, place)
        for wrong in (0, 61, -1, True, False):
            self.refused(BadNumber, rings, Turn(), wrong)
            self.refused(BadNumber, period, Turn(), wrong)


class WhichComesFirst(Refusals):
    def test_done_and_undone_order_ahead_of_move(self):
        for move in (Cut(60), Weave(0), Riffle("ab")):
            for wrong in WRONG_ORDERS:
                self.refused(BadOrder, move.done, wrong)
                self.refused(BadOrder, move.undone, wrong)

    def test_done_all_no_list_of_moves_ahead_of_order(self):
        for moves in WRONG_MOVE_LISTS:
            for order in (None, [], [0, 0], [True], list(range(61))):
                self.refused(BadMove, done_all, moves, order)

    def test_done_all_no_list_of_moves_wherever_the_wrong_one_stands(self):
        for moves in ([Turn(), None], [Cut(60), None], [Turn(), Turn(), "turn"]):
            self.refused(BadMove, done_all, moves, [0, 0])

    def test_done_all_order_ahead_of_misfit(self):
        for wrong in WRONG_ORDERS:
            self.refused(BadOrder, done_all, [Cut(60), Weave(1), Riffle("ab")], wrong)

    def test_rings_and_period_no_move_ahead_of_number(self):
        for move in WRONG_MOVES:
            for many in (None, 0, 61, True, "4", [4]):
                self.refused(BadMove, rings, move, many)
                self.refused(BadMove, period, move, many)

    def test_rings_and_period_number_ahead_of_misfit(self):
        for move in (Cut(60), Weave(0), Riffle("ab")):
            for many in wrong_numbers(1, 60):
                self.refused(BadNumber, rings, move, many)
                self.refused(BadNumber, period, move, many)

    def test_repeated_no_move_ahead_of_all(self):
        for move in WRONG_MOVES:
            self.refused(BadMove, repeated, move, [0, 0], 1)
            self.refused(BadMove, repeated, move, [0, 1], -1)
            self.refused(BadMove, repeated, move, None, None)

    def test_repeated_order_ahead_of_times_and_misfit(self):
        for order in WRONG_ORDERS:
            for times in (-1, MOST_TIMES + 1, True, None, 1):
                self.refused(BadOrder, repeated, Turn(), order, times)
                self.refused(BadOrder, repeated, Cut(60), order, times)

    def test_ways_order_ahead_of_number(self):
        for order in WRONG_ORDERS:
            for many in (-1, 31, 10 ** 30, True, None, "1", [1]):
                self.refused(BadOrder, ways, order, many)

    def test_repeated_times_ahead_of_misfit(self):
        for move in (Cut(60), Weave(0), Riffle("ab")):
            for times in wrong_numbers(0, MOST_TIMES):
                self.refused(BadNumber, repeated, move, [0, 1, 2], times)


if __name__ == "__main__":
    unittest.main()
