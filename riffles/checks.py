"""What counts as a number and as an order, for every door of the package.

No refusal shows the value that it refuses: it may be of any kind, and not every value can be shown.
"""

from riffles.errors import BadNumber, BadOrder

MOST_CARDS = 60


# True and False are whole numbers to Python, but none to the pack.
def is_number(value, least, most):
    if isinstance(value, bool) or not isinstance(value, int):
        return False
    return value >= least and value <= most


# The length is asked first, so that a list of any size is refused promptly.
def is_order(value):
    if not isinstance(value, list) or not is_number(len(value), 1, MOST_CARDS):
        return False
    if not all([is_number(card, 0, len(value) - 1) for card in value]):
        return False
    return len(set(value)) == len(value)


def check_order(value):
    if not is_order(value):
        raise BadOrder("an order is a list of all cards of a pack of 1 to 60, numbers from 0 on")


def check_cards(value):
    if not is_number(value, 1, MOST_CARDS):
        raise BadNumber("a count of cards is a number from 1 to 60")
