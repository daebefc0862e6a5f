"""Points 9 and 10: the top card brought to a place by weaves, and the orders that come of one riffle."""

import unittest
from itertools import permutations

from riffles.moves import Riffle, Weave, done_all
from riffles.tricks import Answer, Fault, Mixed, brought, mixed
from tests.samples import mingled, words


def counted_off(cards, many):
    """The sorted pack with so many top cards counted off, the last one on top."""
    return list(range(many))[::-1] + list(range(many, cards))


def remade(cards, answer):
    """The order that the fields of a Mixed tell of."""
    return Riffle(answer.word).done(counted_off(cards, answer.many))


def all_mixed(cards):
    """What comes of all counts and all words whose upper part is as great as the count."""
    return {tuple(Riffle(word).done(counted_off(cards, many)))
            for many in range(cards + 1) for word in words(cards) if word.count("a") == many}


def least_apart(order):
    """The least count of top cards that are not one behind the other."""
    many = 1
    while sorted(order[:many]) == list(range(min(order[:many]), min(order[:many]) + many)):
        many += 1
    return many


def faulty(cards, many):
    """An order whose top cards are one behind the other up to one less than so many."""
    return list(range(many - 1)) + list(range(many - 1, cards))[::-1]


class Brought(unittest.TestCase):
    def test_each_place_of_each_even_pack(self):
        for cards in range(2, 61, 2):
            for place in range(cards):
                weaves = brought(cards, place)
                self.assertIsInstance(weaves, list)
                for weave in weaves:
                    self.assertIsInstance(weave, Weave)
                self.assertEqual(done_all(weaves, list(range(cards))).index(0), place, (cards, place))
                order = mingled(cards)
                self.assertEqual(done_all(weaves, order)[place], order[0], (cards, place))

    def test_none_for_the_top(self):
        for cards in range(2, 61, 2):
            self.assertEqual(brought(cards, 0), [])

    def test_what_is_told_is_new(self):
        first = brought(52, 13)
        firsts = [weave.first for weave in first]
        for weave in first:
            weave.first = 1 - weave.first
        first.clear()
        self.assertEqual([weave.first for weave in brought(52, 13)], firsts)
        none = brought(52, 0)
        none.append(Weave(0))
        self.assertEqual(brought(52, 0), [])


class MixedOrders(unittest.TestCase):
    def check_mixed(self, order):
        answer = mixed(order)
        self.assertIsInstance(answer, Mixed, order)
        self.assertEqual(answer.word.count("a"), answer.many, order)
        self.assertEqual(remade(len(order), answer), order)

    def check_fault(self, order, many):
        answer = mixed(order)
        self.assertIsInstance(answer, Fault, order)
        self.assertEqual(answer.many, many, order)

    def test_by_hand(self):
        for order in ([0], [0, 1], [1, 0], [1, 2, 0], [1, 0, 2], [2, 1, 0], [0, 1, 2], [2, 3, 1, 4, 0], [3, 2, 4, 1, 5, 0]):
            self.check_mixed(order)
        for order, many in [([0, 2, 1], 2), ([2, 0, 1], 2), ([1, 2, 4, 3, 0], 3), ([1, 0, 2, 4, 3], 4), ([0, 1, 3, 2], 3),
                            ([3, 2, 0, 1], 3), ([2, 1, 4, 3, 0], 3), ([0, 5, 1, 2, 3, 4], 2)]:
            self.check_fault(order, many)

    def test_all_counts_and_words_gone_through(self):
        for cards in range(1, 7):
            made = all_mixed(cards)
            for order in permutations(range(cards)):
                if order in made:
                    self.check_mixed(list(order))
                else:
                    self.check_fault(list(order), least_apart(order))

    def test_none_and_all_counted_off(self):
        for cards in range(1, 61):
            self.check_mixed(list(range(cards)))
            self.check_mixed(list(range(cards))[::-1])

    def test_great_packs(self):
        for cards in (7, 8, 13, 59, 60):
            for word in words(cards):
                self.check_mixed(Riffle(word).done(counted_off(cards, word.count("a"))))
            for many in range(cards + 1):
                word = ("ba" * cards)[:2 * min(many, cards - many)]
                word = word + ("a" if many > cards - many else "b") * (cards - len(word))
                self.check_mixed(Riffle(word).done(counted_off(cards, many)))

    def test_the_fault_at_each_count(self):
        for cards in (3, 4, 7, 59, 60):
            for many in range(2, cards):
                self.check_fault(faulty(cards, many), many)
                # The same from the other end of the numbers.
                self.check_fault([cards - 1 - card for card in faulty(cards, many)], many)

    def test_the_least_count_where_there_are_several(self):
        self.check_fault([0, 2, 4, 1, 3, 5], 2)
        self.check_fault([2, 3, 5, 0, 4, 1], 3)
        self.check_fault(mingled(60), 2)

    def test_classes(self):
        self.assertEqual(Mixed.__bases__, (Answer,))
        self.assertEqual(Fault.__bases__, (Answer,))
        self.assertEqual(Answer.__bases__, (object,))
        self.assertIsInstance(mixed([0]), Answer)
        self.assertIsInstance(mixed([0, 2, 1]), Answer)

    def test_fields(self):
        made = Mixed(2, "aba")
        self.assertEqual((made.many, made.word), (2, "aba"))
        self.assertEqual(Fault(3).many, 3)
        self.assertEqual(Mixed(many=1, word="ab").word, "ab")
        self.assertEqual(Fault(many=2).many, 2)

    def test_nothing_changed_or_kept(self):
        for order in ([0], [1, 2, 0], [0, 2, 1], mingled(60)):
            kept = list(order)
            first = mixed(order)
            told = dict(vars(first))
            self.assertEqual(order, kept)
            first.many = 99
            first.word = "c"
            self.assertEqual(vars(mixed(order)), told)
            second = mixed(order)
            order.clear()
            self.assertEqual(vars(second), told)


class Arguments(unittest.TestCase):
    def test_are_taken_by_their_names(self):
        self.assertEqual(brought(cards=4, place=0), [])
        self.assertEqual(mixed(order=[0, 2, 1]).many, 2)


if __name__ == "__main__":
    unittest.main()
