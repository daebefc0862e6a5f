"""Points 6, 7 and 8: the rows of an order, the fewest riffles to it, and in how many ways riffles lead there."""

import unittest
from collections import Counter
from itertools import permutations, product
from math import comb, factorial

from riffles.moves import Riffle, done_all
from riffles.rows import orders_with, riffles_to, rows, ways
from tests.samples import mingled, promptly, with_rows, words


def orders(cards):
    """All orders of a small pack."""
    return [list(order) for order in permutations(range(cards))]


def led_to(cards, many):
    """For each order, how many rows of so many words lead to it, all of them gone through."""
    found = Counter()
    for row in product(words(cards), repeat=many):
        found[tuple(done_all([Riffle(word) for word in row], list(range(cards))))] += 1
    return found


def led_on(cards, found):
    """The same for one word more."""
    further = Counter()
    for order, many in found.items():
        for word in words(cards):
            further[tuple(Riffle(word).done(list(order)))] += many
    return further


def fewest(row_count):
    """The fewest twos that are multiplied no less than so many."""
    twos = 0
    while 2 ** twos < row_count:
        twos += 1
    return twos


def great_orders(cards):
    """Orders of any pack with all numbers of rows, and others that are less plain."""
    found = [with_rows(cards, many) for many in range(1, cards + 1)]
    found.extend([mingled(cards), mingled(cards)[::-1]])
    found.extend(done_all([Riffle(word), Riffle(word[::-1])], list(range(cards))) for word in words(cards))
    return found


class Rows(unittest.TestCase):
    def test_by_hand(self):
        for order, found in [
            ([0], [[0]]),
            ([0, 1], [[0, 1]]),
            ([1, 0], [[0], [1]]),
            ([0, 2, 1], [[0, 1], [2]]),
            ([1, 0, 2], [[0], [1, 2]]),
            ([1, 2, 0], [[0], [1, 2]]),
            ([2, 0, 1], [[0, 1], [2]]),
            ([2, 1, 0], [[0], [1], [2]]),
            ([0, 2, 3, 1], [[0, 1], [2, 3]]),
            ([3, 1, 2, 0], [[0], [1, 2], [3]]),
            ([2, 0, 3, 1], [[0, 1], [2, 3]]),
            ([3, 0, 4, 1, 2], [[0, 1, 2], [3, 4]]),
            ([4, 2, 0, 1, 3], [[0, 1], [2, 3], [4]]),
            ([1, 3, 5, 0, 2, 4], [[0], [1, 2], [3, 4], [5]]),
            ([5, 0, 1, 6, 2, 3, 7, 4], [[0, 1, 2, 3, 4], [5, 6, 7]]),
        ]:
            with self.subTest(order=order):
                self.assertEqual(rows(order), found)

    def test_sorted_and_turned_about(self):
        for cards in range(1, 61):
            self.assertEqual(rows(list(range(cards))), [list(range(cards))])
            self.assertEqual(rows(list(range(cards))[::-1]), [[card] for card in range(cards)])

    def test_a_cut_makes_two_rows(self):
        for cards in range(2, 61):
            for many in range(1, cards):
                order = list(range(many, cards)) + list(range(many))
                self.assertEqual(rows(order), [list(range(many)), list(range(many, cards))])

    def test_as_many_as_asked_for(self):
        for cards in range(1, 61):
            for many in range(1, cards + 1):
                found = rows(with_rows(cards, many))
                self.assertEqual(found, [[card] for card in range(many - 1)] + [list(range(many - 1, cards))])

    def check_told(self, order):
        found = rows(order)
        self.assertEqual(sum(found, []), list(range(len(order))), order)
        for row in found:
            places = [order.index(card) for card in row]
            self.assertEqual(places, sorted(places), order)
        for row, behind in zip(found, found[1:]):
            self.assertGreater(order.index(row[-1]), order.index(behind[0]), order)

    def test_all_cards_in_turn_and_each_row_as_long_as_can_be(self):
        for cards in range(1, 7):
            for order in orders(cards):
                self.check_told(order)
        for cards in range(1, 61):
            for order in great_orders(cards):
                self.check_told(order)

    def test_nothing_changed_or_kept(self):
        for order in ([0], [2, 0, 3, 1], mingled(60)):
            kept = list(order)
            first = rows(order)
            again = rows(order)
            self.assertEqual(order, kept)
            first[0].append(99)
            first.append([99])
            self.assertEqual(order, kept)
            self.assertEqual(rows(order), again)
            order.clear()
            self.assertEqual(again, rows(kept))


class AtMostTwiceAsMany(unittest.TestCase):
    def test_all_orders_and_words_of_small_packs(self):
        for cards in range(1, 7):
            for order in orders(cards):
                most = 2 * len(rows(order))
                for word in words(cards):
                    self.assertLessEqual(len(rows(Riffle(word).done(order))), most, (order, word))

    def test_greater_packs(self):
        for cards in (7, 8, 13, 31, 32, 59, 60):
            for order in great_orders(cards):
                most = 2 * len(rows(order))
                for word in words(cards):
                    self.assertLessEqual(len(rows(Riffle(word).done(order))), most, (order, word))

    def test_twice_as_many_are_reached(self):
        self.assertEqual(Riffle("baba").done([0, 1, 2, 3]), [2, 0, 3, 1])
        self.assertEqual(len(rows([2, 0, 3, 1])), 2)
        self.assertEqual(Riffle("baba").done([2, 0, 3, 1]), [3, 2, 1, 0])
        self.assertEqual(len(rows([3, 2, 1, 0])), 4)


class RifflesTo(unittest.TestCase):
    def check_led(self, order):
        found = riffles_to(order)
        self.assertIsInstance(found, list)
        for word in found:
            self.assertIsInstance(word, str)
            self.assertEqual(len(word), len(order), order)
        self.assertEqual(done_all([Riffle(word) for word in found], list(range(len(order)))), order)
        return len(found)

    def test_by_hand(self):
        # Orders of two rows come of just one word.
        self.assertEqual(riffles_to([1, 0]), ["ba"])
        self.assertEqual(riffles_to([2, 0, 1]), ["baa"])
        self.assertEqual(riffles_to([1, 2, 0]), ["bba"])
        self.assertEqual(riffles_to([0, 2, 3, 1]), ["abba"])
        # And orders of four rows of just one pair of words: the cards are numbered aa, ab, ba, bb.
        self.assertEqual(riffles_to([3, 2, 1, 0]), ["baba", "baba"])

    def test_none_for_the_sorted_pack(self):
        for cards in range(1, 61):
            self.assertEqual(riffles_to(list(range(cards))), [])

    def test_no_lesser_number_leads_there(self):
        for cards in range(1, 7):
            reached = {tuple(range(cards))}
            before = set()
            many = 0
            while reached:
                for order in reached:
                    self.assertEqual(self.check_led(list(order)), many, order)
                before |= reached
                reached = {tuple(Riffle(word).done(list(order))) for order in reached for word in words(cards)} - before
                many += 1
            self.assertEqual(len(before), factorial(cards))

    def test_all_rows_of_words_gone_through(self):
        for cards in range(1, 5):
            for many in range(3 if cards == 4 else 4):
                for order in led_to(cards, many):
                    self.assertLessEqual(self.check_led(list(order)), many, order)

    def test_as_many_as_the_rows_ask_for(self):
        for cards in range(1, 61):
            for order in great_orders(cards):
                self.assertEqual(self.check_led(order), fewest(len(rows(order))), order)

    def test_at_the_edges_of_twos(self):
        for many, riffles in [(1, 0), (2, 1), (3, 2), (4, 2), (5, 3), (8, 3), (9, 4), (16, 4), (17, 5), (32, 5), (33, 6),
                              (59, 6), (60, 6)]:
            self.assertEqual(self.check_led(with_rows(60, many)), riffles)

    def test_nothing_changed_or_kept(self):
        for order in ([0], [0, 1], [3, 1, 2, 0], mingled(60)):
            kept = list(order)
            first = riffles_to(order)
            again = riffles_to(order)
            self.assertEqual(order, kept)
            first.append("ab")
            first[0] = "ab"
            self.assertEqual(order, kept)
            self.assertEqual(riffles_to(order), again)


class Ways(unittest.TestCase):
    def test_by_hand(self):
        # One riffle leaves the sorted pack by each word whose a's are all ahead of its b's.
        self.assertEqual(ways([0], 1), 2)
        self.assertEqual(ways([0, 1], 1), 3)
        self.assertEqual(ways([1, 0], 1), 1)
        self.assertEqual(ways([0, 1, 2, 3, 4], 1), 6)
        self.assertEqual(ways([2, 0, 1], 1), 1)
        self.assertEqual(ways([2, 1, 0], 1), 0)
        self.assertEqual(ways([0], 30), 2 ** 30)
        # Two words of two signs are 16 rows of words: 3 * 3 + 1 * 1 leave the pack, 3 * 1 + 1 * 3 turn it.
        self.assertEqual(ways([0, 1], 2), 10)
        self.assertEqual(ways([1, 0], 2), 6)

    def test_all_rows_of_words_gone_through(self):
        for cards, most in [(1, 5), (2, 4), (3, 3), (4, 2), (5, 2)]:
            for many in range(most + 1):
                found = led_to(cards, many)
                for order in orders(cards):
                    self.assertEqual(ways(order, many), found[tuple(order)], (order, many))

    def test_word_by_word(self):
        for cards in range(1, 6):
            found = Counter([tuple(range(cards))])
            for many in range(6):
                for order in orders(cards):
                    self.assertEqual(ways(order, many), found[tuple(order)], (order, many))
                found = led_on(cards, found)

    def test_no_riffle(self):
        for cards in range(1, 61):
            for order in great_orders(cards):
                self.assertEqual(ways(order, 0), 1 if order == list(range(cards)) else 0, order)

    def test_none_where_there_are_too_many_rows(self):
        for cards in (1, 2, 3, 4, 5, 16, 17, 33, 59, 60):
            for order in great_orders(cards):
                for many in range(31):
                    if many < fewest(len(rows(order))):
                        self.assertEqual(ways(order, many), 0, (order, many))
                    else:
                        self.assertGreater(ways(order, many), 0, (order, many))

    def test_just_one_where_the_rows_are_as_many_as_the_twos(self):
        for many in range(6):
            for cards in range(2 ** many, 61):
                self.assertEqual(ways(with_rows(cards, 2 ** many), many), 1)

    def test_sixty_cards_and_thirty_riffles(self):
        with promptly():
            for row_count in range(1, 61):
                self.assertEqual(ways(with_rows(60, row_count), 30), comb(2 ** 30 + 60 - row_count, 60))
            self.assertEqual(ways(mingled(60), 30), comb(2 ** 30 + 60 - len(rows(mingled(60))), 60))

    def test_all_ways_together_are_all_rows_of_words(self):
        for cards in (1, 2, 7, 31, 59, 60):
            for many in (0, 1, 2, 5, 6, 29, 30):
                together = sum(orders_with(cards, row_count) * ways(with_rows(cards, row_count), many)
                               for row_count in range(1, cards + 1))
                self.assertEqual(together, 2 ** (cards * many), (cards, many))

    def test_the_order_stands_as_it_was(self):
        for order in ([0], [3, 1, 2, 0], mingled(60)):
            kept = list(order)
            ways(order, 30)
            self.assertEqual(order, kept)


class OrdersWith(unittest.TestCase):
    def test_by_hand(self):
        self.assertEqual([orders_with(1, many) for many in range(3)], [0, 1, 0])
        self.assertEqual([orders_with(2, many) for many in range(4)], [0, 1, 1, 0])
        self.assertEqual([orders_with(3, many) for many in range(5)], [0, 1, 4, 1, 0])
        self.assertEqual([orders_with(4, many) for many in range(6)], [0, 1, 11, 11, 1, 0])

    def test_all_orders_gone_through(self):
        for cards in range(1, 8):
            found = Counter(len(rows(order)) for order in orders(cards))
            for many in range(61):
                self.assertEqual(orders_with(cards, many), found[many], (cards, many))

    def test_edges(self):
        for cards in range(1, 61):
            self.assertEqual(orders_with(cards, 0), 0)
            self.assertEqual(orders_with(cards, 1), 1)
            # All words that leave the sorted pack are one order, each other word is one of two rows by itself.
            self.assertEqual(orders_with(cards, 2), 2 ** cards - cards - 1)
            self.assertEqual(orders_with(cards, cards), 1)
            for many in range(cards + 1, 61):
                self.assertEqual(orders_with(cards, many), 0)

    def test_all_numbers_of_rows_together_are_all_orders(self):
        with promptly():
            for cards in range(1, 61):
                together = sum(orders_with(cards, many) for many in range(61))
                self.assertEqual(together, factorial(cards))

    def test_as_many_from_either_end(self):
        # Turned about, an order has a row for each step that made none.
        for cards in (7, 8, 59, 60):
            for many in range(1, cards + 1):
                self.assertEqual(orders_with(cards, many), orders_with(cards, cards + 1 - many))


class Arguments(unittest.TestCase):
    def test_are_taken_by_their_names(self):
        self.assertEqual(rows(order=[1, 0]), [[0], [1]])
        self.assertEqual(riffles_to(order=[1, 0]), ["ba"])
        self.assertEqual(ways(order=[1, 0], many=1), 1)
        self.assertEqual(orders_with(cards=3, many=2), 4)


if __name__ == "__main__":
    unittest.main()
