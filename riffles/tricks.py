"""The top card brought to a place by weaves, and the orders that one riffle of a pack partly turned about can make."""

from riffles.checks import MOST_CARDS, check_order, is_number
from riffles.errors import BadNumber
from riffles.moves import Weave


# A Weave takes a card of the upper half to twice its place, and one further if the lower half comes first: so the
# binary figures of the place are the weaves. Ahead of the last one the card is at half the place, so in the upper half.
def brought(cards, place):
    if not is_number(cards, 2, MOST_CARDS) or cards % 2 == 1:
        raise BadNumber("weaves take an even count of cards from 2 to 60")
    if not is_number(place, 0, cards - 1):
        raise BadNumber("no place of so many cards")
    weaves = []
    left = place
    while left > 0:
        weaves.insert(0, Weave(left % 2))
        left = left // 2
    return weaves


class Answer:
    pass


class Mixed(Answer):
    def __init__(self, many, word):
        self.many = many
        self.word = word


class Fault(Answer):
    def __init__(self, many):
        self.many = many


# The top card of a mixed order may be the last one counted off or the first one of the others: both make the order.
# It is taken for one of the others, so that nothing is counted off for the sorted pack.
def mixed(order):
    check_order(order)
    for many in range(1, len(order) + 1):
        top = order[:many]
        if max(top) - min(top) != many - 1:
            return Fault(many)
    return Mixed(order[0], "".join(["a" if card < order[0] else "b" for card in order]))
