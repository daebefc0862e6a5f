"""The rows of an order, the fewest riffles to it, and in how many ways riffles lead there."""

from riffles.checks import MOST_CARDS, check_cards, check_order, is_number
from riffles.errors import BadNumber
from riffles.moves import Riffle


def rows(order):
    check_order(order)
    found = [[0]]
    for card in range(1, len(order)):
        if order.index(card) > order.index(card - 1):
            found[-1].append(card)
        else:
            found.append([card])
    return found


# The last riffle is undone first. It parts the cards by the last binary figure of their row's number, the noughts
# on top, and the figures ahead are left to the riffles before it: when none is left, the cards stand row behind row.
def riffles_to(order):
    numbers = row_numbers(order)
    left = list(order)
    words = []
    while max(numbers) > 0:
        word = "".join(["b" if numbers[card] % 2 == 1 else "a" for card in left])
        words.insert(0, word)
        left = Riffle(word).undone(left)
        numbers = [number // 2 for number in numbers]
    return words


# The words give each card a number, with a binary figure for each riffle, and lead to the order just if these never
# fall from card to card, and rise wherever a row begins. With one more from each other step on they rise at every
# step, so each way is a choice of as many different numbers as there are cards.
def ways(order, many):
    check_order(order)
    if not is_number(many, 0, 30):
        raise BadNumber("a count of riffles is a number from 0 to 30")
    numbers = 1
    for riffle in range(many):
        numbers = numbers * 2
    return choices(numbers + len(order) - len(rows(order)), len(order))


# One card more, laid beneath the others, takes any number, and those from that number on move up by one. Behind the
# last card of a row it makes that row longer; anywhere else a row more comes of it.
def orders_with(cards, many):
    check_cards(cards)
    if not is_number(many, 0, MOST_CARDS):
        raise BadNumber("a count of rows is a number from 0 to 60")
    counts = [0, 1] + [0] * (MOST_CARDS - 1)
    for size in range(2, cards + 1):
        grown = [0]
        for number in range(1, MOST_CARDS + 1):
            grown.append(number * counts[number] + (size - number + 1) * counts[number - 1])
        counts = grown
    return counts[many]


# All cards are in the rows in turn, so a number for each card of each row stands at the card's own number.
def row_numbers(order):
    numbers = []
    for number, row in enumerate(rows(order)):
        numbers.extend([number] * len(row))
    return numbers


# The division never leaves a rest: each step makes the number of ways to choose one more.
def choices(whole, chosen):
    found = 1
    for step in range(chosen):
        found = found * (whole - step) // (step + 1)
    return found
