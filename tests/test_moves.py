"""Points 1, 2 and 4: what the moves make of orders."""

import unittest
from collections import deque

from riffles.moves import Cut, Deal, Move, Riffle, Turn, Under, Weave, done_all
from tests.samples import fitting, mingled, told, words


def dealt(order, piles):
    """The deal as hands do it: rows whose last card is the top one, put on one another from the right."""
    table = [[] for pile in range(piles)]
    for turn, card in enumerate(order):
        table[turn % piles].append(card)
    held = table.pop()
    while table:
        held = table.pop() + held
    return held[::-1]


def laid_under(order):
    pack = deque(order)
    laid = deque()
    down = True
    while pack:
        if down:
            laid.appendleft(pack.popleft())
        else:
            pack.rotate(-1)
        down = not down
    return list(laid)


def riffled(order, word):
    upper = deque(order[:word.count("a")])
    lower = deque(order[word.count("a"):])
    return [(upper if sign == "a" else lower).popleft() for sign in word]


class ByHand(unittest.TestCase):
    def check(self, cases):
        for move, order, after in cases:
            with self.subTest(move=told(move), order=order):
                self.assertEqual(move.done(order), after)
                self.assertEqual(move.undone(after), order)

    def test_cut(self):
        self.check([
            (Cut(0), [0], [0]),
            (Cut(1), [0], [0]),
            (Cut(0), [2, 0, 1], [2, 0, 1]),
            (Cut(1), [2, 0, 1], [0, 1, 2]),
            (Cut(2), [0, 1, 2, 3, 4], [2, 3, 4, 0, 1]),
            (Cut(3), [4, 2, 0, 1, 3], [1, 3, 4, 2, 0]),
            (Cut(4), [0, 1, 2, 3, 4], [4, 0, 1, 2, 3]),
            (Cut(5), [3, 1, 2, 4, 0], [3, 1, 2, 4, 0]),
            (Cut(60), mingled(60), mingled(60)),
        ])

    def test_turn(self):
        self.check([
            (Turn(), [0], [0]),
            (Turn(), [0, 1], [1, 0]),
            (Turn(), [2, 0, 1], [1, 0, 2]),
            (Turn(), [3, 0, 1, 2], [2, 1, 0, 3]),
        ])

    def test_deal(self):
        self.check([
            (Deal(1), [0], [0]),
            (Deal(60), [0], [0]),
            (Deal(1), [0, 1, 2, 3], [3, 2, 1, 0]),
            (Deal(2), [0, 1, 2, 3], [3, 1, 2, 0]),
            (Deal(2), [0, 1, 2, 3, 4], [3, 1, 4, 2, 0]),
            (Deal(3), [0, 1, 2, 3, 4, 5, 6], [5, 2, 4, 1, 6, 3, 0]),
            (Deal(3), [6, 0, 5, 1, 4, 2, 3], [2, 5, 4, 0, 3, 1, 6]),
            (Deal(4), [0, 1, 2, 3, 4, 5], [3, 2, 5, 1, 4, 0]),
            (Deal(3), [0, 1, 2], [2, 1, 0]),
            (Deal(5), [2, 0, 1], [1, 0, 2]),
            (Deal(60), [0, 1, 2, 3], [3, 2, 1, 0]),
        ])

    def test_under(self):
        self.check([
            (Under(), [0], [0]),
            (Under(), [0, 1], [1, 0]),
            (Under(), [0, 1, 2], [1, 2, 0]),
            (Under(), [0, 1, 2, 3], [3, 1, 2, 0]),
            (Under(), [0, 1, 2, 3, 4], [1, 3, 4, 2, 0]),
            (Under(), [0, 1, 2, 3, 4, 5], [3, 5, 1, 4, 2, 0]),
            (Under(), [2, 0, 1], [0, 1, 2]),
        ])

    def test_weave(self):
        self.check([
            (Weave(0), [0, 1], [0, 1]),
            (Weave(1), [0, 1], [1, 0]),
            (Weave(0), [0, 1, 2, 3], [0, 2, 1, 3]),
            (Weave(1), [0, 1, 2, 3], [2, 0, 3, 1]),
            (Weave(0), [5, 0, 4, 1, 3, 2], [5, 1, 0, 3, 4, 2]),
            (Weave(1), [5, 0, 4, 1, 3, 2], [1, 5, 3, 0, 2, 4]),
        ])

    def test_riffle(self):
        self.check([
            (Riffle("a"), [0], [0]),
            (Riffle("b"), [0], [0]),
            (Riffle("aaa"), [2, 0, 1], [2, 0, 1]),
            (Riffle("bbb"), [2, 0, 1], [2, 0, 1]),
            (Riffle("aab"), [0, 1, 2], [0, 1, 2]),
            (Riffle("baa"), [0, 1, 2], [2, 0, 1]),
            (Riffle("bba"), [0, 1, 2], [1, 2, 0]),
            (Riffle("abba"), [0, 1, 2, 3], [0, 2, 3, 1]),
            (Riffle("bbaba"), [4, 2, 0, 1, 3], [0, 1, 4, 3, 2]),
            (Riffle("a" * 60), mingled(60), mingled(60)),
        ])


class AsHandsDoIt(unittest.TestCase):
    def test_every_pack(self):
        for cards in range(1, 61):
            order = mingled(cards)
            for many in range(cards + 1):
                top, rest = order[:many], order[many:]
                self.assertEqual(Cut(many).done(order), rest + top, (many, cards))
            for piles in range(1, 61):
                self.assertEqual(Deal(piles).done(order), dealt(order, piles), (piles, cards))
            for word in words(cards):
                self.assertEqual(Riffle(word).done(order), riffled(order, word), word)
            self.assertEqual(Turn().done(order), order[::-1], cards)
            self.assertEqual(Under().done(order), laid_under(order), cards)

    def test_weave_of_every_even_pack(self):
        for cards in range(2, 61, 2):
            order = mingled(cards)
            pairs = list(zip(order[:cards // 2], order[cards // 2:]))
            self.assertEqual(Weave(0).done(order), [card for pair in pairs for card in pair], cards)
            self.assertEqual(Weave(1).done(order), [card for pair in pairs for card in pair[::-1]], cards)


class Undone(unittest.TestCase):
    def test_undone_of_done_and_done_of_undone(self):
        for cards in range(1, 61):
            for order in (list(range(cards)), mingled(cards)):
                for move in fitting(cards):
                    self.assertEqual(move.undone(move.done(order)), order, told(move))
                    self.assertEqual(move.done(move.undone(order)), order, told(move))


class DoneAll(unittest.TestCase):
    def test_none_gives_the_order_itself(self):
        self.assertEqual(done_all([], [2, 0, 1]), [2, 0, 1])

    def test_one_behind_the_other(self):
        self.assertEqual(done_all([Cut(1), Turn()], [0, 1, 2]), [0, 2, 1])
        self.assertEqual(done_all([Turn(), Cut(1)], [0, 1, 2]), [1, 0, 2])
        self.assertEqual(done_all([Weave(1), Cut(1), Deal(2)], [0, 1, 2, 3]), [2, 3, 1, 0])
        self.assertEqual(done_all([Riffle("baba"), Under()], [3, 1, 0, 2]), [1, 3, 2, 0])

    def test_as_done_by_done(self):
        for cards in range(1, 61):
            moves = fitting(cards)
            order = mingled(cards)
            for move in moves:
                order = move.done(order)
            self.assertEqual(done_all(moves, mingled(cards)), order)

    def test_the_same_move_again(self):
        move = Cut(1)
        self.assertEqual(done_all([move, move, move], [0, 1, 2, 3]), [3, 0, 1, 2])


class NothingChangedOrKept(unittest.TestCase):
    def test_the_order_stands_as_it_was(self):
        for cards in (1, 2, 5, 6, 60):
            for move in fitting(cards):
                order = mingled(cards)
                for door in (move.done, move.undone, lambda given: done_all([move], given)):
                    after = door(order)
                    self.assertEqual(order, mingled(cards), told(move))
                    self.assertIsNot(after, order, told(move))

    def test_changing_what_was_told_changes_no_later_answer(self):
        for cards in (1, 2, 5, 6, 60):
            for move in fitting(cards):
                order = mingled(cards)
                for door in (move.done, move.undone, lambda given: done_all([move], given)):
                    first = door(order)
                    kept = list(first)
                    first[0] = 99
                    first.append(99)
                    self.assertEqual(order, mingled(cards), told(move))
                    self.assertEqual(door(order), kept, told(move))

    def test_changing_what_was_handed_in_changes_nothing_told(self):
        for move in fitting(6):
            order = mingled(6)
            after = move.done(order)
            before = move.undone(order)
            order.clear()
            self.assertEqual(after, move.done(mingled(6)))
            self.assertEqual(before, move.undone(mingled(6)))

    def test_the_list_of_moves_stands_as_it_was(self):
        moves = [Cut(1), Turn(), Under()]
        kept = list(moves)
        order = [1, 0, 2]
        after = done_all(moves, order)
        self.assertEqual(moves, kept)
        self.assertEqual(order, [1, 0, 2])
        moves.clear()
        self.assertEqual(after, done_all(kept, [1, 0, 2]))

    def test_no_moves_still_tell_a_new_order(self):
        order = [1, 0]
        after = done_all([], order)
        after.append(2)
        self.assertEqual(order, [1, 0])

    def test_a_move_is_not_used_up(self):
        for move in fitting(6):
            first = move.done(mingled(6))
            move.undone(mingled(6))
            self.assertEqual(move.done(mingled(6)), first, told(move))


class Classes(unittest.TestCase):
    def test_each_move_stands_straight_under_move(self):
        for sort in (Cut, Turn, Deal, Under, Weave, Riffle):
            self.assertEqual(sort.__bases__, (Move,), sort.__name__)

    def test_arguments_are_taken_by_their_names(self):
        self.assertEqual(Cut(many=1).done(order=[0, 1, 2]), [1, 2, 0])
        self.assertEqual(Deal(piles=2).undone(order=[1, 2, 0]), [0, 1, 2])
        self.assertEqual(Weave(first=1).done([0, 1]), [1, 0])
        self.assertEqual(Riffle(word="ba").done([0, 1]), [1, 0])
        self.assertEqual(done_all(moves=[Turn()], order=[0, 1]), [1, 0])


if __name__ == "__main__":
    unittest.main()
