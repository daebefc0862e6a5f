"""What several tests hand in: moves that fit a pack, and wrong inputs of every kind."""

import signal
from contextlib import contextmanager

from riffles.moves import Cut, Deal, Riffle, Turn, Under, Weave


def endless():
    """A list that holds itself."""
    row = []
    row.append(row)
    return row


# Of no use to any door, whatever it asks for.
OF_WRONG_KIND = [
    None, True, False, 0.0, 1.0, 1.5, float("nan"), float("inf"), 1j, "", "0", "1", "ab", "cut 1", b"ab",
    (), (0,), (0, 1), {}, {0: 0}, {0}, frozenset([0]), range(2), object(), int, list, Cut, Turn, len, lambda: 0,
]

WRONG_ORDERS = OF_WRONG_KIND + [
    0, 1, -1, 10 ** 30, Turn(),
    [], list(range(61)), list(range(60, -1, -1)), list(range(1000)),
    [0, 0], [0, 1, 1], [1], [1, 2], [1, 2, 3], [0, 2], [0, 1, 3], [-1], [-1, 0], [0, 1, -1], [0, 10 ** 30],
    [True], [False], [False, True], [True, False], [0, True], [False, 1], [2, 1, False],
    [0.0], [0, 1.0], ["0"], [None], [0, None], [[]], [[0]], [[0, 1]], [(0,)], [{}], [0, "1"], [Turn()], endless(),
]

WRONG_MOVES = OF_WRONG_KIND + [0, 1, -1, 10 ** 30, [], [Turn()], (Turn(),), {0: Turn()}]

WRONG_MOVE_LISTS = OF_WRONG_KIND + [
    0, 1, 10 ** 30, Turn(), (Turn(),), {0: Turn()}, {Turn()}, iter([Turn()]),
    [None], [0], [True], ["turn"], [[]], [[Turn()]], [(Turn(),)], [Turn], [Turn(), None], [None, Turn()], endless(),
]


def wrong_numbers(least, most):
    """What is no number from least to most."""
    return OF_WRONG_KIND + [least - 1, -10 ** 30, most + 1, 10 ** 30, 10 ** 5000, [], [least], [least, most], Turn()]


def words(cards):
    """All words for a small pack, some for a greater one."""
    if cards <= 6:
        return [format(bits, "b").zfill(cards).replace("0", "a").replace("1", "b") for bits in range(2 ** cards)]
    patterns = ["a", "b", "ab", "ba", "aab", "abbb", "abbab", "b" * (cards // 2) + "a" * cards]
    return [(pattern * cards)[:cards] for pattern in patterns]


def fitting(cards):
    """Moves of each sort that a pack of so many cards can be given, with all their numbers."""
    moves = [Cut(many) for many in range(cards + 1)]
    moves.extend(Deal(piles) for piles in range(1, 61))
    moves.extend(Riffle(word) for word in words(cards))
    moves.extend([Turn(), Under()])
    if cards % 2 == 0:
        moves.extend([Weave(0), Weave(1)])
    return moves


def misfits():
    """Pairs of a move and a count of cards that it can't be done with."""
    pairs = [(Cut(cards + 1), cards) for cards in range(1, 60)]
    pairs.extend((Cut(60), cards) for cards in range(1, 60))
    pairs.extend((Weave(first), cards) for first in (0, 1) for cards in range(1, 60, 2))
    for cards in range(1, 61):
        for signs in (cards - 1, cards + 1, 61 - cards):
            if 1 <= signs <= 60 and signs != cards:
                pairs.append((Riffle(("ab" * 60)[:signs]), cards))
    return pairs


def with_rows(cards, many):
    """An order of just so many rows: the first cards turned about, each a row, and the others behind the last of them."""
    return list(range(many))[::-1] + list(range(many, cards))


def mingled(cards):
    """An order that is neither sorted nor turned about, but for the smallest packs."""
    return sorted(range(cards), key=lambda card: (card + 1) * 37 % 61)


def told(move):
    """A move's name and values, for a message."""
    return f"{type(move).__name__} {vars(move)}"


@contextmanager
def promptly():
    """Fails where the answer does not come within a minute, instead of waiting for it."""
    def too_slow(number, frame):
        raise AssertionError("the answer does not come promptly")

    before = signal.signal(signal.SIGALRM, too_slow)
    signal.alarm(60)
    try:
        yield
    finally:
        signal.alarm(0)
        signal.signal(signal.SIGALRM, before)
