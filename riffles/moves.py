"""The moves: each makes of an order another one, by the places alone."""

from riffles.checks import MOST_CARDS, check_order, is_number
from riffles.errors import BadMove


# A move is told by its sources: for each place of the order that comes, from the top on,
# the place that its card comes from. So done and undone need to be told only once.
class Move:
    # A bare Move would pass for a move and tell none: only the classes under it are made.
    def __init__(self):
        raise BadMove("a bare Move tells no move")

    def sources(self, cards):
        raise BadMove("a bare Move tells no move")

    def done(self, order):
        check_order(order)
        return [order[source] for source in self.sources(len(order))]

    def undone(self, order):
        check_order(order)
        before = list(order)
        for place, source in enumerate(self.sources(len(order))):
            before[source] = order[place]
        return before


class Cut(Move):
    def __init__(self, many):
        if not is_number(many, 0, MOST_CARDS):
            raise BadMove("a Cut takes a number of cards from 0 to 60")
        self.many = many

    def sources(self, cards):
        if self.many > cards:
            raise BadMove("a Cut of more cards than there are")
        return list(range(self.many, cards)) + list(range(self.many))


class Turn(Move):
    # To make a bare Move is refused, so a move without values too must tell how it is made.
    def __init__(self):
        pass

    def sources(self, cards):
        return list(range(cards - 1, -1, -1))


class Deal(Move):
    def __init__(self, piles):
        if not is_number(piles, 1, MOST_CARDS):
            raise BadMove("a Deal takes a number of piles from 1 to 60")
        self.piles = piles

    # The pile on the right ends on top of all, and in each pile the card dealt last is the top one.
    def sources(self, cards):
        places = []
        for pile in range(self.piles - 1, -1, -1):
            dealt = list(range(pile, cards, self.piles))
            places.extend(list(reversed(dealt)))
        return places


class Under(Move):
    # As at Turn.
    def __init__(self):
        pass

    def sources(self, cards):
        pack = list(range(cards))
        laid = []
        while len(pack) > 0:
            laid.append(pack.pop(0))
            if len(pack) > 0:
                pack.append(pack.pop(0))
        return list(reversed(laid))


class Weave(Move):
    def __init__(self, first):
        if not is_number(first, 0, 1):
            raise BadMove("a Weave takes 0 or 1")
        self.first = first

    def sources(self, cards):
        if cards % 2 == 1:
            raise BadMove("a Weave of an odd pack")
        turn = "ab" if self.first == 0 else "ba"
        return riffle_sources(turn * (cards // 2))


class Riffle(Move):
    def __init__(self, word):
        if not is_word(word):
            raise BadMove("a Riffle takes a text of 1 to 60 signs, a or b")
        self.word = word

    def sources(self, cards):
        if len(self.word) != cards:
            raise BadMove("a Riffle with another count of signs than there are cards")
        return riffle_sources(self.word)


def is_word(value):
    if not isinstance(value, str) or not is_number(len(value), 1, MOST_CARDS):
        return False
    return value.count("a") + value.count("b") == len(value)


def riffle_sources(word):
    upper = 0
    lower = word.count("a")
    places = []
    for sign in word:
        if sign == "a":
            places.append(upper)
            upper = upper + 1
        else:
            places.append(lower)
            lower = lower + 1
    return places


def check_move(value):
    if not isinstance(value, Move):
        raise BadMove("no move")


def check_moves(value):
    if not isinstance(value, list):
        raise BadMove("no list of moves")
    for move in value:
        check_move(move)


def done_all(moves, order):
    check_moves(moves)
    check_order(order)
    after = list(order)
    for move in moves:
        after = move.done(after)
    return after
